/-
  Layer 6, the small calls on numbers and places: isTurn, isMirrored, isSide, joined, mirror, quarter; the place of a cell, as a number.
-/
import Derived.Test.YthjgldjjplcncabDoorProg
import Derived.Test.YthjgldjjplcncabDoorTrng
import Derived.WalkKit
import Derived.Lib.Walk
import Derived.LoopTactic
import Derived.BigQuiet
import Derived.Deep.QuietTactic
import Derived.WalkSmall
import Derived.Deep.LoopGhost
import Derived.BigRegion
namespace Go.Proofs.YthjgldjjplcncabDoor.Grd
open Go Go.Lib Go.RowKit

/-- Where the turn k lays the cell i of a grid of h rows and w columns. -/
def tpl (h w i k : Nat) : Pl := (Pl.mk h w (i / w) (i % w)).turn k
def plc (h w i k : Nat) : Nat := (tpl h w i k).r * (tpl h w i k).w + (tpl h w i k).c
theorem tpl_in {h w i : Nat} (hi : i < h * w) (k : Nat) : (tpl h w i k).In := Pl.in_turn (P := Pl.mk h w (i / w) (i % w)) (div_in hi) k
theorem tpl_hw (h w i k : Nat) : (tpl h w i k).h = (if k % 2 = 1 then w else h) ∧ (tpl h w i k).w = (if k % 2 = 1 then h else w) := Pl.turn_hw _ k
theorem plc_lt {h w i : Nat} (hi : i < h * w) (k : Nat) : plc h w i k < h * w := by
  have h1 := tpl_in hi k
  obtain ⟨e1, e2⟩ := tpl_hw h w i k
  have := at_lt h1.1 h1.2
  have e : (tpl h w i k).h * (tpl h w i k).w = h * w := by
    rw [e1, e2]
    by_cases e : k % 2 = 1
    · rw [if_pos e, if_pos e, Nat.mul_comm]
    · rw [if_neg e, if_neg e]
  rw [e] at this
  exact this
theorem plc_inj {h w i j : Nat} (hi : i < h * w) (hj : j < h * w) {k : Nat} (hk : k < 8) (he : plc h w i k = plc h w j k) : i = j := by
  have h1 := tpl_in hi k
  have h2 := tpl_in hj k
  obtain ⟨e1, e2⟩ := tpl_hw h w i k
  obtain ⟨f1, f2⟩ := tpl_hw h w j k
  have ew : (tpl h w j k).w = (tpl h w i k).w := f2.trans e2.symm
  have d1 := at_div (r := (tpl h w i k).r) h1.2
  have d2 := at_div (r := (tpl h w j k).r) h2.2
  have m1 := at_mod (r := (tpl h w i k).r) h1.2
  have m2 := at_mod (r := (tpl h w j k).r) h2.2
  unfold plc at he
  rw [he, ← ew, d2] at d1
  rw [he, ← ew, m2] at m1
  have e : tpl h w i k = tpl h w j k := Pl.ext (e1.trans f1.symm) ew.symm d1.symm m1.symm
  have e' := Pl.turn_inj (P := Pl.mk h w (i / w) (i % w)) (Q := Pl.mk h w (j / w) (j % w)) (div_in hi) (div_in hj) hk e
  injection e' with _ _ e3 e4
  rw [← at_back w i, ← at_back w j, e3, e4]

theorem isTurn_any (k : Int) (w : World) :
    Calls Tryd.prog 21 #[.int .i64 k] w fun e w' => e = .returned (.bool (decide (0 ≤ k ∧ k < 8))) ∧ w' = w := by
  go_enter Tryd.func21, Tryd.ntmps21
  by_cases h : 0 ≤ k
  · have e : decide (0 ≤ k ∧ k < 8) = decide (k < 8) := decide_eq_decide.2 ⟨fun x => x.2, fun x => ⟨h, x⟩⟩
    rw [e]
    go_wp2
    go_ret
    exact ⟨rfl, rfl⟩
  · have e : decide (0 ≤ k ∧ k < 8) = false := decide_eq_false fun x => h x.1
    rw [e]
    go_wp2
    go_ret
    exact ⟨rfl, rfl⟩
theorem isMirrored_any (k : Int) (w : World) :
    Calls Tryd.prog 47 #[.int .i64 k] w fun e w' => e = .returned (.bool (decide (4 ≤ k))) ∧ w' = w := by
  go_enter Tryd.func47, Tryd.ntmps47
  go_wp2
  go_ret
  exact ⟨rfl, rfl⟩
theorem tSide_any (i : Int) (w : World) :
    Calls Tryd.prog 32 #[.int .i64 i] w fun e w' => e = .returned (.bool (decide (sideOk i))) ∧ w' = w := by
  go_enter Tryd.func32, Tryd.ntmps32
  by_cases h : 1 ≤ i
  · have e : decide (sideOk i) = decide (i ≤ 16) := decide_eq_decide.2 ⟨fun x => x.2, fun x => ⟨h, x⟩⟩
    rw [e]
    go_wp2
    go_ret
    exact ⟨rfl, rfl⟩
  · have e : decide (sideOk i) = false := decide_eq_false fun x => h x.1
    rw [e]
    go_wp2
    go_ret
    exact ⟨rfl, rfl⟩
theorem cells_new (w : World) (cs : Array Value) (t : TypeId) (j : Nat) : (w.alloc (.cells cs t)).cell? ⟨w.heap.size, j, none⟩ = cs[j]? := by
  have hn : (w.alloc (.cells cs t)).heap[w.heap.size]? = some (.cells cs t) := by unfold World.alloc; simp
  simp only [World.cell?]
  rw [hn]
  rfl
theorem below_one (w : World) (o : Obj) : Below w.heap.size w (w.alloc o) := (Below.refl _ _).alloc (Nat.le_refl _) o
theorem results_a1 {fn : Func} {p : Tmp} (h : fn.results = #[.cell p 90]) (tmps : Array Value) (w : World) (b : Nat) (x0 x1 : Value)
    (hp : tmps.getD p undef = .pointer (some ⟨b, 0, none⟩)) (c0 : w.cell? ⟨b, 0, none⟩ = some x0) (c1 : w.cell? ⟨b, 1, none⟩ = some x1) :
    (results fn tmps).run Tryd.prog w = .ok (.agg #[x0, x1]) w := by
  have hp' : tmps[p]?.getD undef = .pointer (some ⟨b, 0, none⟩) := by simpa using hp
  simp only [results, h]
  simp [hp', asAddr]
  go_simp
theorem results_a2 {fn : Func} {p q : Tmp} (h : fn.results = #[.cell p 90, .cell q 80]) (tmps : Array Value) (w : World) (b c : Nat) (x0 x1 y0 y1 : Value)
    (hp : tmps.getD p undef = .pointer (some ⟨b, 0, none⟩)) (c0 : w.cell? ⟨b, 0, none⟩ = some x0) (c1 : w.cell? ⟨b, 1, none⟩ = some x1)
    (hq : tmps.getD q undef = .pointer (some ⟨c, 0, none⟩)) (d0 : w.cell? ⟨c, 0, none⟩ = some y0) (d1 : w.cell? ⟨c, 1, none⟩ = some y1) :
    (results fn tmps).run Tryd.prog w = .ok (.tuple #[.agg #[x0, x1], .agg #[y0, y1]]) w := by
  have hp' : tmps[p]?.getD undef = .pointer (some ⟨b, 0, none⟩) := by simpa using hp
  have hq' : tmps[q]?.getD undef = .pointer (some ⟨c, 0, none⟩) := by simpa using hq
  simp only [results, h]
  simp [hp', hq', asAddr]
  go_simp
theorem mirror_any (r c h w : Nat) (hc : c < w) (hw : w < 100) (W : World) :
    Calls Tryd.prog 48 #[.agg #[.int .i64 r, .int .i64 c], .agg #[.int .i64 h, .int .i64 w]] W fun e W' => e = .returned (.agg #[.int .i64 r, .int .i64 ((w - 1 - c : Nat) : Int)]) ∧ Below W.heap.size W W' := by
  have e : ((w - 1 - c : Nat) : Int) = (w : Int) - 1 - c := by omega
  rw [e]
  go_enter Tryd.func48, Tryd.ntmps48
  go_wp2
  have hz : ∀ o1 o2, ((W.alloc o1).alloc o2).heap.size = W.heap.size + 1 + 1 := fun o1 o2 => by rw [World.size_alloc, World.size_alloc]
  refine bodyPost_ret (results_a1 rfl _ _ (W.heap.size + 1 + 1) _ _ rfl (by rw [← hz _ _]; exact cells_new _ _ _ _) (by rw [← hz _ _]; exact cells_new _ _ _ _)) rfl ⟨rfl, ?_⟩
  exact ((below_one W _).alloc (by simp) _).alloc (by simp; omega) _
set_option maxHeartbeats 1000000 in
theorem quarter_any (r c h w : Nat) (hr : r < h) (hh : h < 100) (W : World) :
    Calls Tryd.prog 49 #[.agg #[.int .i64 r, .int .i64 c], .agg #[.int .i64 h, .int .i64 w]] W fun e W' => e = .returned (.tuple #[.agg #[.int .i64 c, .int .i64 ((h - 1 - r : Nat) : Int)], .agg #[.int .i64 w, .int .i64 h]]) ∧ Below W.heap.size W W' := by
  have e : ((h - 1 - r : Nat) : Int) = (h : Int) - 1 - r := by omega
  rw [e]
  go_enter Tryd.func49, Tryd.ntmps49
  go_wp2
  go_big_region
  all_goals go_wp2
  all_goals (refine bodyPost_ret (results_a2 rfl _ _ (W.heap.size + 1 + 1) (W.heap.size + 1 + 1 + 1) (.int .i64 c) (.int .i64 ((h : Int) - 1 - r)) (.int .i64 w) (.int .i64 h) rfl (by go_simp) (by go_simp) rfl (by go_simp) (by go_simp)) rfl ⟨rfl, ?_⟩; exact Below.drew ((((below_one W _).alloc (by simp) _).alloc (by simp; omega) _).alloc (by simp; omega) _))
/-- A block of two cells. -/
structure Two (W : World) (b : Nat) (t : TypeId) (x0 x1 : Value) : Prop where
  blk : W.heap[b]? = some (.cells #[x0, x1] t)
theorem Two.c0 {W : World} {b : Nat} {t : TypeId} {x0 x1 : Value} (h : Two W b t x0 x1) : W.cell? ⟨b, 0, none⟩ = some x0 := by simp [World.cell?, h.blk]
theorem Two.c1 {W : World} {b : Nat} {t : TypeId} {x0 x1 : Value} (h : Two W b t x0 x1) : W.cell? ⟨b, 1, none⟩ = some x1 := by simp [World.cell?, h.blk]
theorem Two.fr {W : World} {b : Nat} {t : TypeId} {x0 x1 : Value} (h : Two W b t x0 x1) (j : Nat) : W.frozen? ⟨b, j, none⟩ = false := frozen_of_row W b j _ _ h.blk
theorem Two.lt {W : World} {b : Nat} {t : TypeId} {x0 x1 : Value} (h : Two W b t x0 x1) : b < W.heap.size := (Array.getElem?_eq_some_iff.1 h.blk).1
theorem Two.keep {W W' : World} {b : Nat} {t : TypeId} {x0 x1 : Value} (h : Two W b t x0 x1) (hb : Below W.heap.size W W') : Two W' b t x0 x1 := ⟨(hb.block b h.lt).trans h.blk⟩
theorem cell_grown (w : World) (b j : Nat) (u : Value) : w.grownBy (w.setCell ⟨b, j, none⟩ u) (some b) := ⟨rfl, rfl, rfl, by simp, fun k _ hk => heap_setCell_other w ⟨b, j, none⟩ k u (fun e => hk (by simp [e]))⟩
theorem Two.other {W : World} {b c j : Nat} {t : TypeId} {x0 x1 u : Value} (h : Two W b t x0 x1) (hc : b ≠ c) : Two (W.setCell ⟨c, j, none⟩ u) b t x0 x1 := ⟨((cell_grown W c j u).block b h.lt (fun e => hc (Option.some.inj e))).trans h.blk⟩
theorem Two.set0 {W : World} {b : Nat} {t : TypeId} {x0 x1 : Value} (h : Two W b t x0 x1) (u : Value) : Two (W.setCell ⟨b, 0, none⟩ u) b t u x1 := ⟨heap_setCell_same W b 0 _ _ u h.blk⟩
theorem Two.set1 {W : World} {b : Nat} {t : TypeId} {x0 x1 : Value} (h : Two W b t x0 x1) (u : Value) : Two (W.setCell ⟨b, 1, none⟩ u) b t x0 u := ⟨heap_setCell_same W b 1 _ _ u h.blk⟩
theorem Below.put {B b j : Nat} {w W : World} {u : Value} (h : Below B w W) (hb : B ≤ b) (hs : B ≤ W.heap.size) : Below B w (W.setCell ⟨b, j, none⟩ u) := h.grown (cell_grown W b j u) hs (fun k hk => by injection hk with hk; omega)

end Go.Proofs.YthjgldjjplcncabDoor.Grd
