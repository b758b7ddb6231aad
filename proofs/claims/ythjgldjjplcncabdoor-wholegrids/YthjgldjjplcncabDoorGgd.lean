/-
  The program's calls on one cell and one way: isSide, isOpen, beside, hasBeside, isBarred, step; for every grid whose sides and sizes are right.
-/
import Derived.Test.YthjgldjjplcncabDoorProg
import Derived.Test.YthjgldjjplcncabDoorGrdm
import Derived.WalkKit
import Derived.Lib.Walk
import Derived.LoopTactic
import Derived.BigQuiet
import Derived.Deep.QuietTactic
import Derived.WalkSmall
import Derived.Deep.LoopGhost
namespace Go.Proofs.YthjgldjjplcncabDoor.Grd
open Go Go.Lib Go.RowKit

/-- The four ways, in their variable. -/
structure Wy (w : World) : Prop where
  c0 : w.cell? ⟨0, 0, none⟩ = some (.int .i64 0)
  c1 : w.cell? ⟨0, 1, none⟩ = some (.int .i64 1)
  c2 : w.cell? ⟨0, 2, none⟩ = some (.int .i64 1)
  c3 : w.cell? ⟨0, 3, none⟩ = some (.int .i64 0)
  c4 : w.cell? ⟨0, 4, none⟩ = some (.int .i64 0)
  c5 : w.cell? ⟨0, 5, none⟩ = some (.int .i64 (-1))
  c6 : w.cell? ⟨0, 6, none⟩ = some (.int .i64 (-1))
  c7 : w.cell? ⟨0, 7, none⟩ = some (.int .i64 0)
theorem cell_of_block {w w' : World} {b j : Nat} (e : w'.heap[b]? = w.heap[b]?) : w'.cell? ⟨b, j, none⟩ = w.cell? ⟨b, j, none⟩ := by simp only [World.cell?]; rw [e]
theorem Wy.of {w w' : World} (h : Wy w) (e : w'.heap[0]? = w.heap[0]?) : Wy w' :=
  ⟨(cell_of_block e).trans h.c0, (cell_of_block e).trans h.c1, (cell_of_block e).trans h.c2, (cell_of_block e).trans h.c3, (cell_of_block e).trans h.c4, (cell_of_block e).trans h.c5, (cell_of_block e).trans h.c6, (cell_of_block e).trans h.c7⟩
theorem Wy.size {w : World} (h : Wy w) : 0 < w.heap.size := by
  by_cases hs : 0 < w.heap.size
  · exact hs
  · have := h.c0
    have e : w.heap[0]? = none := Array.getElem?_eq_none (by omega)
    simp [World.cell?, e] at this
theorem Wy.below {B : Nat} {w w' : World} (h : Wy w) (hB : 0 < B) (hb : Below B w w') : Wy w' := h.of (hb.block 0 hB)
theorem Wy.drew {w : World} (h : Wy w) (n : Nat) : Wy (w.drewN n) := h.below (B := w.heap.size) h.size (below_drewN (Below.refl _ _) n)

/-- A list of bools, wherever it lies. -/
def ReadsB (W : World) (ao : Option Addr) (zs : List Bool) : Prop := ∀ i (_ : i < zs.length), ∃ b off, ao = some ⟨b, off, none⟩ ∧ b < W.heap.size ∧ W.cell? ⟨b, off + i, none⟩ = some (.bool (bt zs i))
theorem ReadsB.below {W W' : World} {ao : Option Addr} {zs : List Bool} (h : ReadsB W ao zs) (hb : Below W.heap.size W W') : ReadsB W' ao zs := fun j hj => by
  obtain ⟨g, o, h1, h2, h3⟩ := h j hj
  exact ⟨g, o, h1, Nat.lt_of_lt_of_le h2 hb.size, (hb.cell (p := ⟨g, o + j, none⟩) h2).trans h3⟩
theorem ReadsB.drew {W : World} {ao : Option Addr} {zs : List Bool} (h : ReadsB W ao zs) (n : Nat) : ReadsB (W.drewN n) ao zs := h.below (below_drewN (Below.refl _ _) n)

/-- Where a grid's three lists lie, and their room. -/
structure Ad where
  a1 : Option Addr
  c1 : Nat
  a2 : Option Addr
  c2 : Nat
  a3 : Option Addr
  c3 : Nat
/-- A grid as a value. -/
def gv (g : Gr) (p : Ad) : Value := .agg #[.int .i64 g.h, .int .i64 g.w, .slice p.a1 g.B.length p.c1, .slice p.a2 g.R.length p.c2, .slice p.a3 g.D.length p.c3]
structure RG (W : World) (g : Gr) (p : Ad) : Prop where
  b : ReadsB W p.a1 g.B
  r : ReadsB W p.a2 g.R
  d : ReadsB W p.a3 g.D
theorem RG.below {W W' : World} {g : Gr} {p : Ad} (h : RG W g p) (hb : Below W.heap.size W W') : RG W' g p := ⟨h.b.below hb, h.r.below hb, h.d.below hb⟩
theorem RG.drew {W : World} {g : Gr} {p : Ad} (h : RG W g p) (n : Nat) : RG (W.drewN n) g p := ⟨h.b.drew n, h.r.drew n, h.d.drew n⟩

/-- A grid that lies in a block of its own. -/
structure Bx (W : World) (b : Nat) (g : Gr) (p : Ad) : Prop where
  lt : b < W.heap.size
  k0 : W.cell? ⟨b, 0, none⟩ = some (.int .i64 g.h)
  k1 : W.cell? ⟨b, 1, none⟩ = some (.int .i64 g.w)
  k2 : W.cell? ⟨b, 2, none⟩ = some (.slice p.a1 g.B.length p.c1)
  k3 : W.cell? ⟨b, 3, none⟩ = some (.slice p.a2 g.R.length p.c2)
  k4 : W.cell? ⟨b, 4, none⟩ = some (.slice p.a3 g.D.length p.c3)
theorem Bx.below {W W' : World} {b B : Nat} {g : Gr} {p : Ad} (h : Bx W b g p) (hb : Below B W W') (hB : b < B) (hs : W.heap.size ≤ W'.heap.size) : Bx W' b g p :=
  ⟨Nat.lt_of_lt_of_le h.lt hs, (cell_of_block (hb.block b hB)).trans h.k0, (cell_of_block (hb.block b hB)).trans h.k1, (cell_of_block (hb.block b hB)).trans h.k2, (cell_of_block (hb.block b hB)).trans h.k3, (cell_of_block (hb.block b hB)).trans h.k4⟩
theorem Bx.keep {W W' : World} {b : Nat} {g : Gr} {p : Ad} (h : Bx W b g p) (hb : Below W.heap.size W W') : Bx W' b g p := h.below hb h.lt hb.size
theorem cells_box (w : World) (cs : Array Value) (t : TypeId) (j : Nat) : (w.alloc (.cells cs t)).cell? ⟨w.heap.size, j, none⟩ = cs[j]? := by
  have hn : (w.alloc (.cells cs t)).heap[w.heap.size]? = some (.cells cs t) := by unfold World.alloc; simp
  simp only [World.cell?]
  rw [hn]
  rfl
theorem below_box (w : World) (o : Obj) : Below w.heap.size w (w.alloc o) := (Below.refl _ _).alloc (Nat.le_refl _) o
theorem Bx.new (w : World) (g : Gr) (p : Ad) (t : TypeId) : Bx (w.alloc (.cells #[.int .i64 g.h, .int .i64 g.w, .slice p.a1 g.B.length p.c1, .slice p.a2 g.R.length p.c2, .slice p.a3 g.D.length p.c3] t)) w.heap.size g p :=
  ⟨by rw [World.size_alloc]; omega, cells_box _ _ _ _, cells_box _ _ _ _, cells_box _ _ _ _, cells_box _ _ _ _, cells_box _ _ _ _⟩

theorem isSide_any (i : Int) (w : World) :
    Calls Tryd.prog 34 #[.int .i64 i] w fun e w' => e = .returned (.bool (decide (sideOk i))) ∧ w' = w := by
  go_enter Tryd.func34, Tryd.ntmps34
  by_cases h : 1 ≤ i
  · have e : decide (sideOk i) = decide (i ≤ 16) := decide_eq_decide.2 ⟨fun x => x.2, fun x => ⟨h, x⟩⟩
    rw [e]
    go_wp2
    go_ret
    exact ⟨rfl, rfl⟩
  · have e : decide (sideOk i) = false := decide_eq_false fun x => h x.1
    rw [e]
    go_wp2
    go_ret
    exact ⟨rfl, rfl⟩

end Go.Proofs.YthjgldjjplcncabDoor.Grd
/-
  Of no program: the cell that lies one way of another, and whether both are open; bars; steps told by them.
-/
namespace Go.Proofs.YthjgldjjplcncabDoor.Grd

/-- The cell that lies that way. -/
def Gr.nb (g : Gr) (i way : Nat) : Option Nat :=
  match way with
  | 0 => if i % g.W < g.W - 1 then some (i + 1) else none
  | 1 => if i / g.W < g.H - 1 then some (i + g.W) else none
  | 2 => if 0 < i % g.W then some (i - 1) else none
  | 3 => if 0 < i / g.W then some (i - g.W) else none
  | _ => none
/-- .. and both are open. -/
def Gr.bes (g : Gr) (i way : Nat) : Option Nat :=
  match g.nb i way with
  | some j => if bt g.B i || bt g.B j then none else some j
  | none => none
/-- A bar between two neighbours. -/
def Gr.bar (g : Gr) (i j way : Nat) : Bool := if way % 2 = 0 then bt g.R (min i j) else bt g.D (min i j)
def Gr.stp (g : Gr) (i way : Nat) : Option Nat :=
  match g.bes i way with
  | some j => if g.bar i j way then none else some j
  | none => none

theorem Gr.nb_lt {g : Gr} (hW : 0 < g.W) {i way j : Nat} (hi : i < g.n) (h : g.nb i way = some j) : j < g.n := by
  unfold Gr.nb at h
  match way, h with
  | 0, h => obtain ⟨hc, rfl⟩ := if_some h; exact right_lt hi hc
  | 1, h => obtain ⟨hc, rfl⟩ := if_some h; exact down_lt hc hW
  | 2, h => obtain ⟨hc, rfl⟩ := if_some h; unfold Gr.n at *; omega
  | 3, h => obtain ⟨hc, rfl⟩ := if_some h; unfold Gr.n at *; omega
  | way + 4, h => cases h
theorem Gr.bes_nb {g : Gr} {i way j : Nat} (h : g.bes i way = some j) : g.nb i way = some j ∧ bt g.B i = false ∧ bt g.B j = false := by
  unfold Gr.bes at h
  cases hn : g.nb i way with
  | none => rw [hn] at h; cases h
  | some k =>
    rw [hn] at h
    simp only at h
    by_cases hb : (bt g.B i || bt g.B k) = true
    · rw [if_pos hb] at h; cases h
    · rw [if_neg hb] at h
      obtain rfl := Option.some.inj h
      simpa using hb
theorem Gr.stp_bes {g : Gr} {i way j : Nat} (h : g.stp i way = some j) : g.bes i way = some j ∧ g.bar i j way = false := by
  unfold Gr.stp at h
  cases hn : g.bes i way with
  | none => rw [hn] at h; cases h
  | some k =>
    rw [hn] at h
    simp only at h
    by_cases hb : g.bar i k way = true
    · rw [if_pos hb] at h; cases h
    · rw [if_neg hb] at h
      obtain rfl := Option.some.inj h
      exact ⟨rfl, by simpa using hb⟩
theorem or_none {a b c : Bool} {j : Nat} (h : a = false) : (match (if (a || b) = true then none else some j) with | some k => if c = true then none else some k | none => none) = if c = false ∧ b = false then some j else none := by
  subst h
  cases b <;> cases c <;> simp
/-- A step from an open cell. -/
theorem Gr.st_stp {g : Gr} {i way : Nat} (ho : g.opn i = true) : g.st i way = g.stp i way := by
  obtain ⟨hi, hb⟩ := Gr.opn_iff.1 ho
  match way with
  | 0 =>
    rw [Gr.st0 ho]
    unfold Gr.stp Gr.bes Gr.nb
    by_cases hc : i % g.W < g.W - 1
    · simp only [hc, if_true, true_and]
      have e : g.bar i (i + 1) 0 = bt g.R i := by unfold Gr.bar; rw [if_pos rfl, Nat.min_eq_left (by omega)]
      cases hx : bt g.B (i + 1) <;> cases hy : bt g.R i <;> simp [hb, e, hy]
    · simp [hc]
  | 1 =>
    rw [Gr.st1 ho]
    unfold Gr.stp Gr.bes Gr.nb
    by_cases hc : i / g.W < g.H - 1
    · simp only [hc, if_true, true_and]
      have e : g.bar i (i + g.W) 1 = bt g.D i := by unfold Gr.bar; rw [if_neg (by decide), Nat.min_eq_left (by omega)]
      cases hx : bt g.B (i + g.W) <;> cases hy : bt g.D i <;> simp [hb, e, hy]
    · simp [hc]
  | 2 =>
    rw [Gr.st2 ho]
    unfold Gr.stp Gr.bes Gr.nb
    by_cases hc : 0 < i % g.W
    · simp only [hc, if_true, true_and]
      have e : g.bar i (i - 1) 2 = bt g.R (i - 1) := by unfold Gr.bar; rw [if_pos (by decide), Nat.min_eq_right (by omega)]
      cases hx : bt g.B (i - 1) <;> cases hy : bt g.R (i - 1) <;> simp [hb, e, hy]
    · simp [hc]
  | 3 =>
    rw [Gr.st3 ho]
    unfold Gr.stp Gr.bes Gr.nb
    by_cases hc : 0 < i / g.W
    · simp only [hc, if_true, true_and]
      have e : g.bar i (i - g.W) 3 = bt g.D (i - g.W) := by unfold Gr.bar; rw [if_neg (by decide), Nat.min_eq_right (by omega)]
      cases hx : bt g.B (i - g.W) <;> cases hy : bt g.D (i - g.W) <;> simp [hb, e, hy]
    · simp [hc]
  | way + 4 =>
    unfold Gr.st Gr.stp Gr.bes Gr.nb
    rw [if_pos ho]
    rfl
/-- A bar is wrong at i just where there is none beside it. -/
theorem Gr.badR_iff {g : Gr} (hW : 0 < g.W) {i : Nat} : g.badR i ↔ bt g.R i = true ∧ g.bes i 0 = none := by
  have hm := Nat.mod_lt i hW
  unfold Gr.badR Gr.bes Gr.nb
  by_cases hc : i % g.W < g.W - 1
  · have h2 : ¬ i % g.W = g.W - 1 := by omega
    cases hx : bt g.B (i + 1) <;> cases hy : bt g.B i <;> simp [hc, h2, hx]
  · have h2 : i % g.W = g.W - 1 := by omega
    simp [h2]
theorem Gr.badD_iff {g : Gr} {i : Nat} (hi : i < g.n) : g.badD i ↔ bt g.D i = true ∧ g.bes i 1 = none := by
  have hm := row_lt hi
  unfold Gr.badD Gr.bes Gr.nb
  by_cases hc : i / g.W < g.H - 1
  · have h2 : ¬ i / g.W = g.H - 1 := by omega
    cases hx : bt g.B (i + g.W) <;> cases hy : bt g.B i <;> simp [hc, h2, hx]
  · have h2 : i / g.W = g.H - 1 := by omega
    simp [h2]
end Go.Proofs.YthjgldjjplcncabDoor.Grd
/-
  The program's calls on one cell and one way: beside, hasBeside, isBarred, step; for every grid whose sides and sizes are right.
-/
namespace Go.Proofs.YthjgldjjplcncabDoor.Grd
open Go Go.Lib Go.RowKit

set_option maxHeartbeats 1000000 in
theorem beside_in (H W q m : Nat) (v3 v4 : Value) (ab ao L cp : Nat) (x y : Bool) (w : World) (way : Nat) (hway : way < 4) (dr dc : Int) (hs : 0 < w.heap.size) (k0 : w.cell? ⟨0, way * 2, none⟩ = some (.int .i64 dr)) (k1 : w.cell? ⟨0, way * 2 + 1, none⟩ = some (.int .i64 dc))
    (hH : H ≤ 16) (hW : W ≤ 16) (hqH : q < H) (i : Nat) (hi : i < L) (hL : L ≤ 256) (hW0 : ¬ W = 0) (hq : (i : Int) / (W : Int) = q) (hm : (i : Int) % (W : Int) = m)
    (r c P : Nat) (hr : (q : Int) + dr = r) (hc : (m : Int) + dc = c) (hrH : r < H) (hcW : c < W) (hP : (r : Int) * (W : Int) = P) (hPc : P + c < L)
    (hab : ab < w.heap.size) (e1 : w.cell? ⟨ab, ao + i, none⟩ = some (.bool x)) (e2 : w.cell? ⟨ab, ao + (P + c), none⟩ = some (.bool y)) :
    Calls Tryd.prog 50 #[.agg #[.int .i64 H, .int .i64 W, .slice (some ⟨ab, ao, none⟩) L cp, v3, v4], .int .i64 i, .int .i64 way] w fun e w' => e = .returned (.tuple #[.int .i64 (if x || y then 0 else ((P + c : Nat) : Int)), .bool (!(x || y))]) ∧ Below w.heap.size w w' := by
  go_enter Tryd.func50, Tryd.ntmps50
  go_wp2
  go_quiet (fail)
  go_wp2
  all_goals (go_ret2; refine ⟨by first | (exfalso; omega) | simp_all, below_drewN ((Below.refl _ _).alloc (Nat.le_refl _) _) _⟩)

set_option maxHeartbeats 1000000 in
theorem beside_out (H W q m : Nat) (v2 v3 v4 : Value) (w : World) (way : Nat) (hway : way < 4) (dr dc : Int) (hs : 0 < w.heap.size) (k0 : w.cell? ⟨0, way * 2, none⟩ = some (.int .i64 dr)) (k1 : w.cell? ⟨0, way * 2 + 1, none⟩ = some (.int .i64 dc))
    (hH : H ≤ 16) (hqH : q < H) (hmW : m < W) (i : Nat) (hi : i < 256) (hW0 : ¬ W = 0) (hq : (i : Int) / (W : Int) = q) (hm : (i : Int) % (W : Int) = m)
    (r c : Int) (hr : (q : Int) + dr = r) (hc : (m : Int) + dc = c) (hr1 : -100 < r ∧ r < 100) (hc1 : -100 < c ∧ c < 100) (ho : r < 0 ∨ (H : Int) ≤ r ∨ c < 0 ∨ (W : Int) ≤ c) :
    Calls Tryd.prog 50 #[.agg #[.int .i64 H, .int .i64 W, v2, v3, v4], .int .i64 i, .int .i64 way] w fun e w' => e = .returned (.tuple #[.int .i64 0, .bool false]) ∧ Below w.heap.size w w' := by
  go_enter Tryd.func50, Tryd.ntmps50
  go_wp2
  go_quiet (fail)
  rcases ho with ho | ho | ho | ho
  all_goals go_wp2
  all_goals (go_ret2; refine ⟨rfl, below_drewN ((Below.refl _ _).alloc (Nat.le_refl _) _) _⟩)

def dR : Nat → Int
  | 0 => 0
  | 1 => 1
  | 2 => 0
  | _ => -1
def dC : Nat → Int
  | 0 => 1
  | 1 => 0
  | 2 => -1
  | _ => 0
theorem Wy.k0 {w : World} (h : Wy w) {way : Nat} (hw : way < 4) : w.cell? ⟨0, way * 2, none⟩ = some (.int .i64 (dR way)) := by
  rcases way_cases hw with rfl | rfl | rfl | rfl
  · exact h.c0
  · exact h.c2
  · exact h.c4
  · exact h.c6
theorem Wy.k1 {w : World} (h : Wy w) {way : Nat} (hw : way < 4) : w.cell? ⟨0, way * 2 + 1, none⟩ = some (.int .i64 (dC way)) := by
  rcases way_cases hw with rfl | rfl | rfl | rfl
  · exact h.c1
  · exact h.c3
  · exact h.c5
  · exact h.c7

/-- A cell or none, as two answers. -/
def opt (o : Option Nat) : Value := .tuple #[.int .i64 ((o.getD 0 : Nat) : Int), .bool o.isSome]
/-- Where the way leads, by row and column. -/
theorem Gr.nb_some {g : Gr} (hW : 0 < g.W) {i way j : Nat} (hi : i < g.n) (h : g.nb i way = some j) : ∃ r c : Nat, ((i / g.W : Nat) : Int) + dR way = r ∧ ((i % g.W : Nat) : Int) + dC way = c ∧ r < g.H ∧ c < g.W ∧ r * g.W + c = j := by
  have hq := row_lt hi
  have hm := Nat.mod_lt i hW
  have hdm := Nat.div_add_mod i g.W
  rw [Nat.mul_comm] at hdm
  unfold Gr.nb at h
  match way, h with
  | 0, h =>
    obtain ⟨hc, rfl⟩ := if_some h
    exact ⟨i / g.W, i % g.W + 1, by simp [dR], by simp [dC], hq, by omega, by omega⟩
  | 1, h =>
    obtain ⟨hc, rfl⟩ := if_some h
    exact ⟨i / g.W + 1, i % g.W, by simp [dR], by simp [dC], by generalize i / g.W = q at *; omega, hm, by rw [Nat.add_mul]; omega⟩
  | 2, h =>
    obtain ⟨hc, rfl⟩ := if_some h
    exact ⟨i / g.W, i % g.W - 1, by simp [dR], by simp only [dC]; omega, hq, by omega, by omega⟩
  | 3, h =>
    obtain ⟨hc, rfl⟩ := if_some h
    refine ⟨i / g.W - 1, i % g.W, by simp only [dR]; omega, by simp [dC], by omega, hm, ?_⟩
    have h1 := (up_div hc hW).1
    have h2 : 1 * g.W ≤ i / g.W * g.W := Nat.mul_le_mul_right _ hc
    rw [Nat.sub_mul]
    omega
  | way + 4, h => cases h
theorem Gr.nb_none {g : Gr} (hW : 0 < g.W) {i way : Nat} (hway : way < 4) (hi : i < g.n) (h : g.nb i way = none) : ∃ r c : Int, ((i / g.W : Nat) : Int) + dR way = r ∧ ((i % g.W : Nat) : Int) + dC way = c ∧ (r < 0 ∨ (g.H : Int) ≤ r ∨ c < 0 ∨ (g.W : Int) ≤ c) := by
  have hq := row_lt hi
  have hm := Nat.mod_lt i hW
  refine ⟨_, _, rfl, rfl, ?_⟩
  unfold Gr.nb at h
  rcases way_cases hway with rfl | rfl | rfl | rfl
  all_goals simp only [ite_eq_right_iff, reduceCtorEq, imp_false] at h
  all_goals simp only [dR, dC]
  · right; right; right; omega
  · right; left; omega
  · right; right; left; omega
  · left; omega
theorem int_div (i W : Nat) : (i : Int) / (W : Int) = ((i / W : Nat) : Int) := rfl
theorem int_mod (i W : Nat) : (i : Int) % (W : Int) = ((i % W : Nat) : Int) := rfl
theorem d_small {way : Nat} : -1 ≤ dR way ∧ dR way ≤ 1 ∧ -1 ≤ dC way ∧ dC way ≤ 1 := by
  match way with
  | 0 => decide
  | 1 => decide
  | 2 => decide
  | _ + 3 => simp [dR, dC]

/-- Sides and sizes are right (bars or not). -/
structure Sz (g : Gr) : Prop where
  sh : 1 ≤ g.H ∧ g.H ≤ 16 ∧ (g.H : Int) = g.h
  sw : 1 ≤ g.W ∧ g.W ≤ 16 ∧ (g.W : Int) = g.w
  bl : g.B.length = g.n
  rl : g.R.length = g.n
  dl : g.D.length = g.n
theorem Gr.Right.sz {g : Gr} (h : g.Right) : Sz g := ⟨h.sh, h.sw, h.bl, h.rl, h.dl⟩
theorem Sz.of {g : Gr} (h : g.sides) (h2 : g.sizes) : Sz g := by
  obtain ⟨a, b⟩ := Gr.sides_nat h
  exact ⟨a, b, h2.1, h2.2.1, h2.2.2⟩
theorem Sz.n_le {g : Gr} (h : Sz g) : 1 ≤ g.n ∧ g.n ≤ 256 := by
  obtain ⟨h1, h2, _⟩ := h.sh
  obtain ⟨h3, h4, _⟩ := h.sw
  unfold Gr.n
  have a : g.H * g.W ≤ 16 * 16 := Nat.mul_le_mul h2 h4
  have b : 1 * 1 ≤ g.H * g.W := Nat.mul_le_mul h1 h3
  omega

theorem beside_any (g : Gr) (p : Ad) (hz : Sz g) (i way : Nat) (hi : i < g.n) (hway : way < 4) (w : World) (hw : Wy w) (hR : ReadsB w p.a1 g.B) :
    Calls Tryd.prog 50 #[gv g p, .int .i64 i, .int .i64 way] w fun e w' => e = .returned (opt (g.bes i way)) ∧ Below w.heap.size w w' := by
  obtain ⟨h1, h2, h3⟩ := hz.sh
  obtain ⟨h4, h5, h6⟩ := hz.sw
  have hn := hz.n_le
  unfold gv
  rw [← h3, ← h6]
  have hq := row_lt hi
  have hm := Nat.mod_lt i h4
  have hd := d_small (way := way)
  cases hnb : g.nb i way with
  | none =>
    obtain ⟨r, c, hr, hc, ho⟩ := Gr.nb_none h4 hway hi hnb
    have e : g.bes i way = none := by unfold Gr.bes; rw [hnb]
    rw [e]
    exact beside_out g.H g.W (i / g.W) (i % g.W) _ _ _ w way hway (dR way) (dC way) hw.size (hw.k0 hway) (hw.k1 hway) h2 hq hm i (by omega) (by omega) (int_div _ _) (int_mod _ _) r c hr hc (by generalize i / g.W = q at *; omega) (by generalize i % g.W = q at *; omega) ho
  | some j =>
    obtain ⟨r, c, hr, hc, hr1, hc1, hj⟩ := Gr.nb_some h4 hi hnb
    have hjn := Gr.nb_lt h4 hi hnb
    obtain ⟨ab, ao, ea, hab, e1⟩ := hR i (by rw [hz.bl]; exact hi)
    obtain ⟨ab', ao', ea', _, e2⟩ := hR j (by rw [hz.bl]; exact hjn)
    rw [ea] at ea'
    injection ea' with ea'
    injection ea' with ea1 ea2
    subst ea1 ea2
    rw [ea, hz.bl]
    refine (beside_in g.H g.W (i / g.W) (i % g.W) _ _ ab ao g.n p.c1 (bt g.B i) (bt g.B j) w way hway (dR way) (dC way) hw.size (hw.k0 hway) (hw.k1 hway) h2 h5 hq i hi hn.2 (by omega) (int_div _ _) (int_mod _ _) r c (r * g.W) hr hc hr1 hc1 (by rw [Int.natCast_mul]) (by omega) hab e1 (by rw [hj]; exact e2)).mono ?_
    rintro e w' ⟨rfl, hb⟩
    refine ⟨?_, hb⟩
    have e : g.bes i way = if bt g.B i || bt g.B j then none else some j := by unfold Gr.bes; rw [hnb]
    rw [e, hj]
    cases bt g.B i || bt g.B j <;> rfl
end Go.Proofs.YthjgldjjplcncabDoor.Grd
/-
  The program's hasBeside, isBarred, step.
-/
namespace Go.Proofs.YthjgldjjplcncabDoor.Grd
open Go Go.Lib Go.RowKit

set_option maxHeartbeats 400000 in
theorem hasBeside_any (g : Gr) (p : Ad) (hz : Sz g) (i way : Nat) (hi : i < g.n) (hway : way < 4) (w : World) (hw : Wy w) (hR : ReadsB w p.a1 g.B) :
    Calls Tryd.prog 35 #[gv g p, .int .i64 i, .int .i64 way] w fun e w' => e = .returned (.bool (g.bes i way).isSome) ∧ Below w.heap.size w w' := by
  have cB := fun W h => beside_any g p hz i way hi hway W (hw.below hw.size h) (hR.below h)
  unfold gv opt at cB
  unfold gv
  go_enter Tryd.func35, Tryd.ntmps35
  go_wp2_with (go_at_call 50; refine (cB _ (below_box w _)).mono ?_; rintro e w' ⟨rfl, hb⟩)
  go_ret
  exact ⟨rfl, (below_box w _).trans (hb.mono (below_box w _).size)⟩

set_option maxHeartbeats 1000000 in
theorem isBarred_any (g : Gr) (p : Ad) (hz : Sz g) (i j way : Nat) (hi : i < g.n) (hj : j < g.n) (hway : way < 4) (w : World) (hR2 : ReadsB w p.a2 g.R) (hR3 : ReadsB w p.a3 g.D) :
    Calls Tryd.prog 56 #[gv g p, .int .i64 i, .int .i64 j, .int .i64 way] w fun e w' => e = .returned (.bool (g.bar i j way)) ∧ Below w.heap.size w w' := by
  have hn := hz.n_le
  have hk : min i j < g.n := by omega
  have hmin : min (i : Int) (j : Int) = ((min i j : Nat) : Int) := by omega
  unfold Gr.bar gv
  rw [hz.rl, hz.dl]
  by_cases hp : way % 2 = 0
  · obtain ⟨b, off, e, hb, hc⟩ := hR2 (min i j) (by rw [hz.rl]; exact hk)
    rw [if_pos hp, e]
    have hp2 : (way : Int) % 2 = 0 := by omega
    generalize bt g.R (min i j) = x at *
    generalize min i j = k at *
    go_enter Tryd.func56, Tryd.ntmps56
    go_wp2
    go_ret
    exact ⟨rfl, below_box w _⟩
  · obtain ⟨b, off, e, hb, hc⟩ := hR3 (min i j) (by rw [hz.dl]; exact hk)
    rw [if_neg hp, e]
    have hp2 : (way : Int) % 2 = 1 := by omega
    generalize bt g.D (min i j) = x at *
    generalize min i j = k at *
    go_enter Tryd.func56, Tryd.ntmps56
    go_wp2
    go_ret
    exact ⟨rfl, below_box w _⟩

set_option maxHeartbeats 1000000 in
theorem step_any (g : Gr) (p : Ad) (hz : Sz g) (i way : Nat) (hi : i < g.n) (hway : way < 4) (w : World) (hw : Wy w) (hR : RG w g p) :
    Calls Tryd.prog 44 #[gv g p, .int .i64 i, .int .i64 way] w fun e w' => e = .returned (opt (g.stp i way)) ∧ Below w.heap.size w w' := by
  have HB : Aside (∀ W, Below w.heap.size w W → Calls Tryd.prog 50 #[gv g p, .int .i64 i, .int .i64 way] W fun e w' => e = .returned (opt (g.bes i way)) ∧ Below W.heap.size W w') := fun W h => beside_any g p hz i way hi hway W (hw.below hw.size h) (hR.b.below h)
  have HX : Aside (∀ W j, Below w.heap.size w W → j < g.n → Calls Tryd.prog 56 #[gv g p, .int .i64 i, .int .i64 j, .int .i64 way] W fun e w' => e = .returned (.bool (g.bar i j way)) ∧ Below W.heap.size W w') := fun W j h hj => isBarred_any g p hz i j way hi hj hway W (hR.r.below h) (hR.d.below h)
  cases hb : g.bes i way with
  | none =>
    have e : g.stp i way = none := by unfold Gr.stp; rw [hb]
    have cB := HB.out _ (below_box w (.cells #[.int .i64 g.h, .int .i64 g.w, .slice p.a1 g.B.length p.c1, .slice p.a2 g.R.length p.c2, .slice p.a3 g.D.length p.c3] 27))
    rw [e]
    rw [hb] at cB
    unfold gv opt at cB
    unfold gv
    go_enter Tryd.func44, Tryd.ntmps44
    go_wp2_with (go_at_call 50; refine cB.mono ?_; rintro e w' ⟨rfl, hb1⟩)
    go_ret2
    exact ⟨rfl, (below_box w _).trans (hb1.mono (below_box w _).size)⟩
  | some j =>
    have hj : j < g.n := Gr.nb_lt hz.sw.1 hi (Gr.bes_nb hb).1
    have hn := hz.n_le
    have e : g.stp i way = if g.bar i j way then none else some j := by unfold Gr.stp; rw [hb]
    have cB := HB.out _ (below_box w (.cells #[.int .i64 g.h, .int .i64 g.w, .slice p.a1 g.B.length p.c1, .slice p.a2 g.R.length p.c2, .slice p.a3 g.D.length p.c3] 27))
    rw [hb] at cB
    rw [e]
    have HX2 : Aside (∀ W, Below w.heap.size w W → Calls Tryd.prog 56 #[gv g p, .int .i64 i, .int .i64 j, .int .i64 way] W fun e w' => e = .returned (.bool (g.bar i j way)) ∧ Below W.heap.size W w') := fun W h => HX.out W j h hj
    clear HX HB
    unfold gv opt at cB
    unfold gv at HX2
    unfold gv
    cases hx : g.bar i j way with
    | true =>
      rw [hx] at HX2
      go_enter Tryd.func44, Tryd.ntmps44
      go_wp2_with fail
      refine cB.mono ?_
      rintro e w1 ⟨rfl, hb1⟩
      obtain ⟨_, k0, k1, k2, k3, k4⟩ := (Bx.new w g p _).keep hb1
      have HB1 : Aside (Below w.heap.size w w1) := (below_box w _).trans (hb1.mono (below_box w _).size)
      have cX := HX2.out w1 HB1.out
      clear HX2 hb1 cB
      go_wp2_with fail
      refine cX.mono ?_
      rintro e w2 ⟨rfl, hb2⟩
      go_wp2
      go_ret2
      exact ⟨rfl, HB1.out.trans (hb2.mono HB1.out.size)⟩
    | false =>
      rw [hx] at HX2
      go_enter Tryd.func44, Tryd.ntmps44
      go_wp2_with fail
      refine cB.mono ?_
      rintro e w1 ⟨rfl, hb1⟩
      obtain ⟨_, k0, k1, k2, k3, k4⟩ := (Bx.new w g p _).keep hb1
      have HB1 : Aside (Below w.heap.size w w1) := (below_box w _).trans (hb1.mono (below_box w _).size)
      have cX := HX2.out w1 HB1.out
      clear HX2 hb1 cB
      go_wp2_with fail
      refine cX.mono ?_
      rintro e w2 ⟨rfl, hb2⟩
      go_wp2
      go_ret2
      exact ⟨rfl, HB1.out.trans (hb2.mono HB1.out.size)⟩

end Go.Proofs.YthjgldjjplcncabDoor.Grd
