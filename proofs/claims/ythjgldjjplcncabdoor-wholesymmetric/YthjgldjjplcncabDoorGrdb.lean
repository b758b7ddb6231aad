/-
  The program's calls on one cell and one way: beside, hasBeside, isBarred, step; for every grid whose sides and sizes are right.
-/
import Derived.Test.YthjgldjjplcncabDoorGrda
import Derived.Test.YthjgldjjplcncabDoorGrdn
namespace Go.Proofs.YthjgldjjplcncabDoor.Grd
open Go Go.Lib Go.RowKit

set_option maxHeartbeats 1000000 in
theorem beside_in (H W q m : Nat) (v3 v4 : Value) (ab ao L cp : Nat) (x y : Bool) (w : World) (way : Nat) (hway : way < 4) (dr dc : Int) (hs : 0 < w.heap.size) (k0 : w.cell? ⟨0, way * 2, none⟩ = some (.int .i64 dr)) (k1 : w.cell? ⟨0, way * 2 + 1, none⟩ = some (.int .i64 dc))
    (hH : H ≤ 16) (hW : W ≤ 16) (hqH : q < H) (i : Nat) (hi : i < L) (hL : L ≤ 256) (hW0 : ¬ W = 0) (hq : (i : Int) / (W : Int) = q) (hm : (i : Int) % (W : Int) = m)
    (r c P : Nat) (hr : (q : Int) + dr = r) (hc : (m : Int) + dc = c) (hrH : r < H) (hcW : c < W) (hP : (r : Int) * (W : Int) = P) (hPc : P + c < L)
    (hab : ab < w.heap.size) (e1 : w.cell? ⟨ab, ao + i, none⟩ = some (.bool x)) (e2 : w.cell? ⟨ab, ao + (P + c), none⟩ = some (.bool y)) :
    Calls Tryd.prog 50 #[.agg #[.int .i64 H, .int .i64 W, .slice (some ⟨ab, ao, none⟩) L cp, v3, v4], .int .i64 i, .int .i64 way] w fun e w' => e = .returned (.tuple #[.int .i64 (if x || y then 0 else ((P + c : Nat) : Int)), .bool (!(x || y))]) ∧ Below w.heap.size w w' := by
  go_enter Tryd.func50, Tryd.ntmps50
  go_wp2
  go_quiet (fail)
  go_wp2
  all_goals (go_ret2; refine ⟨by first | (exfalso; omega) | simp_all, below_drewN ((Below.refl _ _).alloc (Nat.le_refl _) _) _⟩)

set_option maxHeartbeats 1000000 in
theorem beside_out (H W q m : Nat) (v2 v3 v4 : Value) (w : World) (way : Nat) (hway : way < 4) (dr dc : Int) (hs : 0 < w.heap.size) (k0 : w.cell? ⟨0, way * 2, none⟩ = some (.int .i64 dr)) (k1 : w.cell? ⟨0, way * 2 + 1, none⟩ = some (.int .i64 dc))
    (hH : H ≤ 16) (hqH : q < H) (hmW : m < W) (i : Nat) (hi : i < 256) (hW0 : ¬ W = 0) (hq : (i : Int) / (W : Int) = q) (hm : (i : Int) % (W : Int) = m)
    (r c : Int) (hr : (q : Int) + dr = r) (hc : (m : Int) + dc = c) (hr1 : -100 < r ∧ r < 100) (hc1 : -100 < c ∧ c < 100) (ho : r < 0 ∨ (H : Int) ≤ r ∨ c < 0 ∨ (W : Int) ≤ c) :
    Calls Tryd.prog 50 #[.agg #[.int .i64 H, .int .i64 W, v2, v3, v4], .int .i64 i, .int .i64 way] w fun e w' => e = .returned (.tuple #[.int .i64 0, .bool false]) ∧ Below w.heap.size w w' := by
  go_enter Tryd.func50, Tryd.ntmps50
  go_wp2
  go_quiet (fail)
  rcases ho with ho | ho | ho | ho
  all_goals go_wp2
  all_goals (go_ret2; refine ⟨rfl, below_drewN ((Below.refl _ _).alloc (Nat.le_refl _) _) _⟩)

def dR : Nat → Int
  | 0 => 0
  | 1 => 1
  | 2 => 0
  | _ => -1
def dC : Nat → Int
  | 0 => 1
  | 1 => 0
  | 2 => -1
  | _ => 0
theorem Wy.k0 {w : World} (h : Wy w) {way : Nat} (hw : way < 4) : w.cell? ⟨0, way * 2, none⟩ = some (.int .i64 (dR way)) := by
  rcases way_cases hw with rfl | rfl | rfl | rfl
  · exact h.c0
  · exact h.c2
  · exact h.c4
  · exact h.c6
theorem Wy.k1 {w : World} (h : Wy w) {way : Nat} (hw : way < 4) : w.cell? ⟨0, way * 2 + 1, none⟩ = some (.int .i64 (dC way)) := by
  rcases way_cases hw with rfl | rfl | rfl | rfl
  · exact h.c1
  · exact h.c3
  · exact h.c5
  · exact h.c7

/-- A cell or none, as two answers. -/
def opt (o : Option Nat) : Value := .tuple #[.int .i64 ((o.getD 0 : Nat) : Int), .bool o.isSome]
/-- Where the way leads, by row and column. -/
theorem Gr.nb_some {g : Gr} (hW : 0 < g.W) {i way j : Nat} (hi : i < g.n) (h : g.nb i way = some j) : ∃ r c : Nat, ((i / g.W : Nat) : Int) + dR way = r ∧ ((i % g.W : Nat) : Int) + dC way = c ∧ r < g.H ∧ c < g.W ∧ r * g.W + c = j := by
  have hq := row_lt hi
  have hm := Nat.mod_lt i hW
  have hdm := Nat.div_add_mod i g.W
  rw [Nat.mul_comm] at hdm
  unfold Gr.nb at h
  match way, h with
  | 0, h =>
    obtain ⟨hc, rfl⟩ := if_some h
    exact ⟨i / g.W, i % g.W + 1, by simp [dR], by simp [dC], hq, by omega, by omega⟩
  | 1, h =>
    obtain ⟨hc, rfl⟩ := if_some h
    exact ⟨i / g.W + 1, i % g.W, by simp [dR], by simp [dC], by generalize i / g.W = q at *; omega, hm, by rw [Nat.add_mul]; omega⟩
  | 2, h =>
    obtain ⟨hc, rfl⟩ := if_some h
    exact ⟨i / g.W, i % g.W - 1, by simp [dR], by simp only [dC]; omega, hq, by omega, by omega⟩
  | 3, h =>
    obtain ⟨hc, rfl⟩ := if_some h
    refine ⟨i / g.W - 1, i % g.W, by simp only [dR]; omega, by simp [dC], by omega, hm, ?_⟩
    have h1 := (up_div hc hW).1
    have h2 : 1 * g.W ≤ i / g.W * g.W := Nat.mul_le_mul_right _ hc
    rw [Nat.sub_mul]
    omega
  | way + 4, h => cases h
theorem Gr.nb_none {g : Gr} (hW : 0 < g.W) {i way : Nat} (hway : way < 4) (hi : i < g.n) (h : g.nb i way = none) : ∃ r c : Int, ((i / g.W : Nat) : Int) + dR way = r ∧ ((i % g.W : Nat) : Int) + dC way = c ∧ (r < 0 ∨ (g.H : Int) ≤ r ∨ c < 0 ∨ (g.W : Int) ≤ c) := by
  have hq := row_lt hi
  have hm := Nat.mod_lt i hW
  refine ⟨_, _, rfl, rfl, ?_⟩
  unfold Gr.nb at h
  rcases way_cases hway with rfl | rfl | rfl | rfl
  all_goals simp only [ite_eq_right_iff, reduceCtorEq, imp_false] at h
  all_goals simp only [dR, dC]
  · right; right; right; omega
  · right; left; omega
  · right; right; left; omega
  · left; omega
theorem int_div (i W : Nat) : (i : Int) / (W : Int) = ((i / W : Nat) : Int) := rfl
theorem int_mod (i W : Nat) : (i : Int) % (W : Int) = ((i % W : Nat) : Int) := rfl
theorem d_small {way : Nat} : -1 ≤ dR way ∧ dR way ≤ 1 ∧ -1 ≤ dC way ∧ dC way ≤ 1 := by
  match way with
  | 0 => decide
  | 1 => decide
  | 2 => decide
  | _ + 3 => simp [dR, dC]

/-- Sides and sizes are right (bars or not). -/
structure Sz (g : Gr) : Prop where
  sh : 1 ≤ g.H ∧ g.H ≤ 16 ∧ (g.H : Int) = g.h
  sw : 1 ≤ g.W ∧ g.W ≤ 16 ∧ (g.W : Int) = g.w
  bl : g.B.length = g.n
  rl : g.R.length = g.n
  dl : g.D.length = g.n
theorem Gr.Right.sz {g : Gr} (h : g.Right) : Sz g := ⟨h.sh, h.sw, h.bl, h.rl, h.dl⟩
theorem Sz.of {g : Gr} (h : g.sides) (h2 : g.sizes) : Sz g := by
  obtain ⟨a, b⟩ := Gr.sides_nat h
  exact ⟨a, b, h2.1, h2.2.1, h2.2.2⟩
theorem Sz.n_le {g : Gr} (h : Sz g) : 1 ≤ g.n ∧ g.n ≤ 256 := by
  obtain ⟨h1, h2, _⟩ := h.sh
  obtain ⟨h3, h4, _⟩ := h.sw
  unfold Gr.n
  have a : g.H * g.W ≤ 16 * 16 := Nat.mul_le_mul h2 h4
  have b : 1 * 1 ≤ g.H * g.W := Nat.mul_le_mul h1 h3
  omega

theorem beside_any (g : Gr) (p : Ad) (hz : Sz g) (i way : Nat) (hi : i < g.n) (hway : way < 4) (w : World) (hw : Wy w) (hR : ReadsB w p.a1 g.B) :
    Calls Tryd.prog 50 #[gv g p, .int .i64 i, .int .i64 way] w fun e w' => e = .returned (opt (g.bes i way)) ∧ Below w.heap.size w w' := by
  obtain ⟨h1, h2, h3⟩ := hz.sh
  obtain ⟨h4, h5, h6⟩ := hz.sw
  have hn := hz.n_le
  unfold gv
  rw [← h3, ← h6]
  have hq := row_lt hi
  have hm := Nat.mod_lt i h4
  have hd := d_small (way := way)
  cases hnb : g.nb i way with
  | none =>
    obtain ⟨r, c, hr, hc, ho⟩ := Gr.nb_none h4 hway hi hnb
    have e : g.bes i way = none := by unfold Gr.bes; rw [hnb]
    rw [e]
    exact beside_out g.H g.W (i / g.W) (i % g.W) _ _ _ w way hway (dR way) (dC way) hw.size (hw.k0 hway) (hw.k1 hway) h2 hq hm i (by omega) (by omega) (int_div _ _) (int_mod _ _) r c hr hc (by generalize i / g.W = q at *; omega) (by generalize i % g.W = q at *; omega) ho
  | some j =>
    obtain ⟨r, c, hr, hc, hr1, hc1, hj⟩ := Gr.nb_some h4 hi hnb
    have hjn := Gr.nb_lt h4 hi hnb
    obtain ⟨ab, ao, ea, hab, e1⟩ := hR i (by rw [hz.bl]; exact hi)
    obtain ⟨ab', ao', ea', _, e2⟩ := hR j (by rw [hz.bl]; exact hjn)
    rw [ea] at ea'
    injection ea' with ea'
    injection ea' with ea1 ea2
    subst ea1 ea2
    rw [ea, hz.bl]
    refine (beside_in g.H g.W (i / g.W) (i % g.W) _ _ ab ao g.n p.c1 (bt g.B i) (bt g.B j) w way hway (dR way) (dC way) hw.size (hw.k0 hway) (hw.k1 hway) h2 h5 hq i hi hn.2 (by omega) (int_div _ _) (int_mod _ _) r c (r * g.W) hr hc hr1 hc1 (by rw [Int.natCast_mul]) (by omega) hab e1 (by rw [hj]; exact e2)).mono ?_
    rintro e w' ⟨rfl, hb⟩
    refine ⟨?_, hb⟩
    have e : g.bes i way = if bt g.B i || bt g.B j then none else some j := by unfold Gr.bes; rw [hnb]
    rw [e, hj]
    cases bt g.B i || bt g.B j <;> rfl
end Go.Proofs.YthjgldjjplcncabDoor.Grd
