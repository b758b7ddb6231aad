/-
  Layer 6, the small calls on numbers and places: isTurn, isMirrored, isSide, joined, mirror, quarter; the place of a cell, as a number.
-/
import Derived.Test.YthjgldjjplcncabDoorProg
import Derived.Test.YthjgldjjplcncabDoorGtn
import Derived.WalkKit
import Derived.Lib.Walk
import Derived.LoopTactic
import Derived.BigQuiet
import Derived.Deep.QuietTactic
import Derived.WalkSmall
import Derived.Deep.LoopGhost
import Derived.BigRegion
namespace Go.Proofs.YthjgldjjplcncabDoor.Grd
open Go Go.Lib Go.RowKit

/-- Where the turn k lays the cell i of a grid of h rows and w columns. -/
def tpl (h w i k : Nat) : Pl := (Pl.mk h w (i / w) (i % w)).turn k
def plc (h w i k : Nat) : Nat := (tpl h w i k).r * (tpl h w i k).w + (tpl h w i k).c
theorem tpl_in {h w i : Nat} (hi : i < h * w) (k : Nat) : (tpl h w i k).In := Pl.in_turn (P := Pl.mk h w (i / w) (i % w)) (div_in hi) k
theorem tpl_hw (h w i k : Nat) : (tpl h w i k).h = (if k % 2 = 1 then w else h) ∧ (tpl h w i k).w = (if k % 2 = 1 then h else w) := Pl.turn_hw _ k
theorem plc_lt {h w i : Nat} (hi : i < h * w) (k : Nat) : plc h w i k < h * w := by
  have h1 := tpl_in hi k
  obtain ⟨e1, e2⟩ := tpl_hw h w i k
  have := at_lt h1.1 h1.2
  have e : (tpl h w i k).h * (tpl h w i k).w = h * w := by
    rw [e1, e2]
    by_cases e : k % 2 = 1
    · rw [if_pos e, if_pos e, Nat.mul_comm]
    · rw [if_neg e, if_neg e]
  rw [e] at this
  exact this
theorem plc_inj {h w i j : Nat} (hi : i < h * w) (hj : j < h * w) {k : Nat} (hk : k < 8) (he : plc h w i k = plc h w j k) : i = j := by
  have h1 := tpl_in hi k
  have h2 := tpl_in hj k
  obtain ⟨e1, e2⟩ := tpl_hw h w i k
  obtain ⟨f1, f2⟩ := tpl_hw h w j k
  have ew : (tpl h w j k).w = (tpl h w i k).w := f2.trans e2.symm
  have d1 := at_div (r := (tpl h w i k).r) h1.2
  have d2 := at_div (r := (tpl h w j k).r) h2.2
  have m1 := at_mod (r := (tpl h w i k).r) h1.2
  have m2 := at_mod (r := (tpl h w j k).r) h2.2
  unfold plc at he
  rw [he, ← ew, d2] at d1
  rw [he, ← ew, m2] at m1
  have e : tpl h w i k = tpl h w j k := Pl.ext (e1.trans f1.symm) ew.symm d1.symm m1.symm
  have e' := Pl.turn_inj (P := Pl.mk h w (i / w) (i % w)) (Q := Pl.mk h w (j / w) (j % w)) (div_in hi) (div_in hj) hk e
  injection e' with _ _ e3 e4
  rw [← at_back w i, ← at_back w j, e3, e4]

theorem isTurn_any (k : Int) (w : World) :
    Calls Tryd.prog 21 #[.int .i64 k] w fun e w' => e = .returned (.bool (decide (0 ≤ k ∧ k < 8))) ∧ w' = w := by
  go_enter Tryd.func21, Tryd.ntmps21
  by_cases h : 0 ≤ k
  · have e : decide (0 ≤ k ∧ k < 8) = decide (k < 8) := decide_eq_decide.2 ⟨fun x => x.2, fun x => ⟨h, x⟩⟩
    rw [e]
    go_wp2
    go_ret
    exact ⟨rfl, rfl⟩
  · have e : decide (0 ≤ k ∧ k < 8) = false := decide_eq_false fun x => h x.1
    rw [e]
    go_wp2
    go_ret
    exact ⟨rfl, rfl⟩
theorem isMirrored_any (k : Int) (w : World) :
    Calls Tryd.prog 47 #[.int .i64 k] w fun e w' => e = .returned (.bool (decide (4 ≤ k))) ∧ w' = w := by
  go_enter Tryd.func47, Tryd.ntmps47
  go_wp2
  go_ret
  exact ⟨rfl, rfl⟩
theorem tSide_any (i : Int) (w : World) :
    Calls Tryd.prog 32 #[.int .i64 i] w fun e w' => e = .returned (.bool (decide (sideOk i))) ∧ w' = w := by
  go_enter Tryd.func32, Tryd.ntmps32
  by_cases h : 1 ≤ i
  · have e : decide (sideOk i) = decide (i ≤ 16) := decide_eq_decide.2 ⟨fun x => x.2, fun x => ⟨h, x⟩⟩
    rw [e]
    go_wp2
    go_ret
    exact ⟨rfl, rfl⟩
  · have e : decide (sideOk i) = false := decide_eq_false fun x => h x.1
    rw [e]
    go_wp2
    go_ret
    exact ⟨rfl, rfl⟩
theorem cells_new (w : World) (cs : Array Value) (t : TypeId) (j : Nat) : (w.alloc (.cells cs t)).cell? ⟨w.heap.size, j, none⟩ = cs[j]? := by
  have hn : (w.alloc (.cells cs t)).heap[w.heap.size]? = some (.cells cs t) := by unfold World.alloc; simp
  simp only [World.cell?]
  rw [hn]
  rfl
theorem below_one (w : World) (o : Obj) : Below w.heap.size w (w.alloc o) := (Below.refl _ _).alloc (Nat.le_refl _) o
theorem results_a1 {fn : Func} {p : Tmp} (h : fn.results = #[.cell p 90]) (tmps : Array Value) (w : World) (b : Nat) (x0 x1 : Value)
    (hp : tmps.getD p undef = .pointer (some ⟨b, 0, none⟩)) (c0 : w.cell? ⟨b, 0, none⟩ = some x0) (c1 : w.cell? ⟨b, 1, none⟩ = some x1) :
    (results fn tmps).run Tryd.prog w = .ok (.agg #[x0, x1]) w := by
  have hp' : tmps[p]?.getD undef = .pointer (some ⟨b, 0, none⟩) := by simpa using hp
  simp only [results, h]
  simp [hp', asAddr]
  go_simp
theorem results_a2 {fn : Func} {p q : Tmp} (h : fn.results = #[.cell p 90, .cell q 80]) (tmps : Array Value) (w : World) (b c : Nat) (x0 x1 y0 y1 : Value)
    (hp : tmps.getD p undef = .pointer (some ⟨b, 0, none⟩)) (c0 : w.cell? ⟨b, 0, none⟩ = some x0) (c1 : w.cell? ⟨b, 1, none⟩ = some x1)
    (hq : tmps.getD q undef = .pointer (some ⟨c, 0, none⟩)) (d0 : w.cell? ⟨c, 0, none⟩ = some y0) (d1 : w.cell? ⟨c, 1, none⟩ = some y1) :
    (results fn tmps).run Tryd.prog w = .ok (.tuple #[.agg #[x0, x1], .agg #[y0, y1]]) w := by
  have hp' : tmps[p]?.getD undef = .pointer (some ⟨b, 0, none⟩) := by simpa using hp
  have hq' : tmps[q]?.getD undef = .pointer (some ⟨c, 0, none⟩) := by simpa using hq
  simp only [results, h]
  simp [hp', hq', asAddr]
  go_simp
theorem mirror_any (r c h w : Nat) (hc : c < w) (hw : w < 100) (W : World) :
    Calls Tryd.prog 48 #[.agg #[.int .i64 r, .int .i64 c], .agg #[.int .i64 h, .int .i64 w]] W fun e W' => e = .returned (.agg #[.int .i64 r, .int .i64 ((w - 1 - c : Nat) : Int)]) ∧ Below W.heap.size W W' := by
  have e : ((w - 1 - c : Nat) : Int) = (w : Int) - 1 - c := by omega
  rw [e]
  go_enter Tryd.func48, Tryd.ntmps48
  go_wp2
  have hz : ∀ o1 o2, ((W.alloc o1).alloc o2).heap.size = W.heap.size + 1 + 1 := fun o1 o2 => by rw [World.size_alloc, World.size_alloc]
  refine bodyPost_ret (results_a1 rfl _ _ (W.heap.size + 1 + 1) _ _ rfl (by rw [← hz _ _]; exact cells_new _ _ _ _) (by rw [← hz _ _]; exact cells_new _ _ _ _)) rfl ⟨rfl, ?_⟩
  exact ((below_one W _).alloc (by simp) _).alloc (by simp; omega) _
set_option maxHeartbeats 1000000 in
theorem quarter_any (r c h w : Nat) (hr : r < h) (hh : h < 100) (W : World) :
    Calls Tryd.prog 49 #[.agg #[.int .i64 r, .int .i64 c], .agg #[.int .i64 h, .int .i64 w]] W fun e W' => e = .returned (.tuple #[.agg #[.int .i64 c, .int .i64 ((h - 1 - r : Nat) : Int)], .agg #[.int .i64 w, .int .i64 h]]) ∧ Below W.heap.size W W' := by
  have e : ((h - 1 - r : Nat) : Int) = (h : Int) - 1 - r := by omega
  rw [e]
  go_enter Tryd.func49, Tryd.ntmps49
  go_wp2
  go_big_region
  all_goals go_wp2
  all_goals (refine bodyPost_ret (results_a2 rfl _ _ (W.heap.size + 1 + 1) (W.heap.size + 1 + 1 + 1) (.int .i64 c) (.int .i64 ((h : Int) - 1 - r)) (.int .i64 w) (.int .i64 h) rfl (by go_simp) (by go_simp) rfl (by go_simp) (by go_simp)) rfl ⟨rfl, ?_⟩; exact Below.drew ((((below_one W _).alloc (by simp) _).alloc (by simp; omega) _).alloc (by simp; omega) _))
/-- A block of two cells. -/
structure Two (W : World) (b : Nat) (t : TypeId) (x0 x1 : Value) : Prop where
  blk : W.heap[b]? = some (.cells #[x0, x1] t)
theorem Two.c0 {W : World} {b : Nat} {t : TypeId} {x0 x1 : Value} (h : Two W b t x0 x1) : W.cell? ⟨b, 0, none⟩ = some x0 := by simp [World.cell?, h.blk]
theorem Two.c1 {W : World} {b : Nat} {t : TypeId} {x0 x1 : Value} (h : Two W b t x0 x1) : W.cell? ⟨b, 1, none⟩ = some x1 := by simp [World.cell?, h.blk]
theorem Two.fr {W : World} {b : Nat} {t : TypeId} {x0 x1 : Value} (h : Two W b t x0 x1) (j : Nat) : W.frozen? ⟨b, j, none⟩ = false := frozen_of_row W b j _ _ h.blk
theorem Two.lt {W : World} {b : Nat} {t : TypeId} {x0 x1 : Value} (h : Two W b t x0 x1) : b < W.heap.size := (Array.getElem?_eq_some_iff.1 h.blk).1
theorem Two.keep {W W' : World} {b : Nat} {t : TypeId} {x0 x1 : Value} (h : Two W b t x0 x1) (hb : Below W.heap.size W W') : Two W' b t x0 x1 := ⟨(hb.block b h.lt).trans h.blk⟩
theorem cell_grown (w : World) (b j : Nat) (u : Value) : w.grownBy (w.setCell ⟨b, j, none⟩ u) (some b) := ⟨rfl, rfl, rfl, by simp, fun k _ hk => heap_setCell_other w ⟨b, j, none⟩ k u (fun e => hk (by simp [e]))⟩
theorem Two.other {W : World} {b c j : Nat} {t : TypeId} {x0 x1 u : Value} (h : Two W b t x0 x1) (hc : b ≠ c) : Two (W.setCell ⟨c, j, none⟩ u) b t x0 x1 := ⟨((cell_grown W c j u).block b h.lt (fun e => hc (Option.some.inj e))).trans h.blk⟩
theorem Two.set0 {W : World} {b : Nat} {t : TypeId} {x0 x1 : Value} (h : Two W b t x0 x1) (u : Value) : Two (W.setCell ⟨b, 0, none⟩ u) b t u x1 := ⟨heap_setCell_same W b 0 _ _ u h.blk⟩
theorem Two.set1 {W : World} {b : Nat} {t : TypeId} {x0 x1 : Value} (h : Two W b t x0 x1) (u : Value) : Two (W.setCell ⟨b, 1, none⟩ u) b t x0 u := ⟨heap_setCell_same W b 1 _ _ u h.blk⟩
theorem Below.put {B b j : Nat} {w W : World} {u : Value} (h : Below B w W) (hb : B ≤ b) (hs : B ≤ W.heap.size) : Below B w (W.setCell ⟨b, j, none⟩ u) := h.grown (cell_grown W b j u) hs (fun k hk => by injection hk with hk; omega)

end Go.Proofs.YthjgldjjplcncabDoor.Grd
/-
  A grid turned, laid cell by cell (layer 6), as mathematics: what lies in the three lists behind each cell, and that the end is the turned grid.
-/
namespace Go.Proofs.YthjgldjjplcncabDoor.Grd

/-- The columns behind a turn. -/
def Gr.tw (g : Gr) (k : Nat) : Nat := if k % 2 = 1 then g.H else g.W
def Gr.th (g : Gr) (k : Nat) : Nat := if k % 2 = 1 then g.W else g.H
theorem Gr.th_tw (g : Gr) (k : Nat) : g.th k * g.tw k = g.n := by
  unfold Gr.th Gr.tw Gr.n
  by_cases e : k % 2 = 1
  · rw [if_pos e, if_pos e, Nat.mul_comm]
  · rw [if_neg e, if_neg e]
/-- Where a cell goes. -/
def Gr.to (g : Gr) (k i : Nat) : Nat := plc g.H g.W i k
theorem Gr.to_lt {g : Gr} {i : Nat} (hi : i < g.n) (k : Nat) : g.to k i < g.n := plc_lt hi k
/-- A cell by its number. -/
def Gr.cel (g : Gr) (i : Nat) : Pl := ⟨g.H, g.W, i / g.W, i % g.W⟩
theorem Gr.cel_of {g : Gr} {i : Nat} (hi : i < g.n) : g.fg.Of (g.cel i) := ⟨rfl, rfl, (div_in (h := g.H) (w := g.W) hi).1, (div_in (h := g.H) (w := g.W) hi).2⟩
theorem Gr.cel_turn (g : Gr) (k i : Nat) : (g.cel i).turn k = tpl g.H g.W i k := rfl
theorem Gr.turn_w (g : Gr) (k i : Nat) : ((g.cel i).turn k).w = g.tw k := (Pl.turn_hw (g.cel i) k).2
theorem Gr.turn_h (g : Gr) (k i : Nat) : ((g.cel i).turn k).h = g.th k := (Pl.turn_hw (g.cel i) k).1
theorem Gr.to_eq (g : Gr) (k i : Nat) : g.to k i = ((g.cel i).turn k).r * g.tw k + ((g.cel i).turn k).c := by
  rw [← g.turn_w k i]; rfl
theorem Gr.turn_c {g : Gr} {i : Nat} (hi : i < g.n) (k : Nat) : ((g.cel i).turn k).c < g.tw k := by
  rw [← g.turn_w k i]; exact (Pl.in_turn (Fg.Of.inn (Gr.cel_of hi)) k).2
theorem Gr.turn_r {g : Gr} {i : Nat} (hi : i < g.n) (k : Nat) : ((g.cel i).turn k).r < g.th k := by
  rw [← g.turn_h k i]; exact (Pl.in_turn (Fg.Of.inn (Gr.cel_of hi)) k).1
theorem Gr.to_div {g : Gr} {i : Nat} (hi : i < g.n) (k : Nat) : g.to k i / g.tw k = ((g.cel i).turn k).r := by
  rw [g.to_eq]; exact at_div (Gr.turn_c hi k)
theorem Gr.to_mod {g : Gr} {i : Nat} (hi : i < g.n) (k : Nat) : g.to k i % g.tw k = ((g.cel i).turn k).c := by
  rw [g.to_eq]; exact at_mod (Gr.turn_c hi k)
theorem Gr.to_inj {g : Gr} {i j k : Nat} (hi : i < g.n) (hj : j < g.n) (hk : k < 8) (h : g.to k i = g.to k j) : i = j := plc_inj hi hj hk h
/-- Each cell of the turned grid comes from one. -/
theorem Gr.from {g : Gr} {j k : Nat} (hj : j < g.n) (hk : k < 8) : ∃ i, i < g.n ∧ g.to k i = j := by
  have hj' : j < g.th k * g.tw k := by rw [g.th_tw]; exact hj
  obtain ⟨h1, h2⟩ := div_in hj'
  have hin : (Pl.mk (g.th k) (g.tw k) (j / g.tw k) (j % g.tw k)).In := ⟨h1, h2⟩
  have hb := bck_lt k hk
  obtain ⟨e1, e2⟩ := Pl.turn_hw (Pl.mk (g.th k) (g.tw k) (j / g.tw k) (j % g.tw k)) (bck k)
  have hpar : bck k % 2 = k % 2 := by
    unfold bck
    by_cases h : k < 4
    · rw [if_pos h]; omega
    · rw [if_neg h]
  have eh : ((Pl.mk (g.th k) (g.tw k) (j / g.tw k) (j % g.tw k)).turn (bck k)).h = g.H := by
    rw [e1, hpar]
    unfold Gr.th Gr.tw
    by_cases e : k % 2 = 1
    · simp only [if_pos e]
    · simp only [if_neg e]
  have ew : ((Pl.mk (g.th k) (g.tw k) (j / g.tw k) (j % g.tw k)).turn (bck k)).w = g.W := by
    rw [e2, hpar]
    unfold Gr.th Gr.tw
    by_cases e : k % 2 = 1
    · simp only [if_pos e]
    · simp only [if_neg e]
  have hQ := Pl.in_turn hin (bck k)
  have hback : ((Pl.mk (g.th k) (g.tw k) (j / g.tw k) (j % g.tw k)).turn (bck k)).turn k = Pl.mk (g.th k) (g.tw k) (j / g.tw k) (j % g.tw k) := by
    rw [Pl.turn_turn hin hb hk, (thn_zero k hk).2.2.2]; rfl
  generalize (Pl.mk (g.th k) (g.tw k) (j / g.tw k) (j % g.tw k)).turn (bck k) = Q at *
  obtain ⟨q1, q2⟩ := hQ
  rw [eh] at q1
  rw [ew] at q2
  refine ⟨Q.r * g.W + Q.c, at_lt q1 q2, ?_⟩
  have eQ : g.cel (Q.r * g.W + Q.c) = Q := Pl.ext eh.symm ew.symm (at_div q2) (at_mod q2)
  rw [g.to_eq, eQ, hback]
  exact at_back _ _

/-- The lists hold these blocks and these bars. -/
structure Sg (n w : Nat) (C : Nat → Prop) (E : Nat → Nat → Prop) (Bs Rs Ds : List Bool) : Prop where
  bl : Bs.length = n
  rl : Rs.length = n
  dl : Ds.length = n
  b : ∀ j, j < n → (bt Bs j = true ↔ C j)
  r : ∀ j, j < n → (bt Rs j = true ↔ ∃ x y, E x y ∧ x / w = y / w ∧ min x y = j)
  d : ∀ j, j < n → (bt Ds j = true ↔ ∃ x y, E x y ∧ ¬ x / w = y / w ∧ min x y = j)
theorem bt_set_eq {l : List Bool} {i : Nat} (h : i < l.length) (v : Bool) : bt (l.set i v) i = v := by simp [bt, h]
theorem bt_set_ne {l : List Bool} {i j : Nat} (h : i ≠ j) (v : Bool) : bt (l.set i v) j = bt l j := by simp [bt, h]
theorem Sg.congr {n w : Nat} {C C' : Nat → Prop} {E E' : Nat → Nat → Prop} {Bs Rs Ds : List Bool} (h : Sg n w C E Bs Rs Ds) (hC : ∀ j, C j ↔ C' j) (hE : ∀ x y, E x y ↔ E' x y) : Sg n w C' E' Bs Rs Ds :=
  ⟨h.bl, h.rl, h.dl, fun j hj => (h.b j hj).trans (hC j), fun j hj => (h.r j hj).trans ⟨fun ⟨x, y, a, b⟩ => ⟨x, y, (hE x y).1 a, b⟩, fun ⟨x, y, a, b⟩ => ⟨x, y, (hE x y).2 a, b⟩⟩, fun j hj => (h.d j hj).trans ⟨fun ⟨x, y, a, b⟩ => ⟨x, y, (hE x y).1 a, b⟩, fun ⟨x, y, a, b⟩ => ⟨x, y, (hE x y).2 a, b⟩⟩⟩
theorem Sg.block {n w : Nat} {C : Nat → Prop} {E : Nat → Nat → Prop} {Bs Rs Ds : List Bool} (h : Sg n w C E Bs Rs Ds) {a : Nat} (ha : a < n) (hn : ¬ C a) (v : Bool) : Sg n w (fun j => C j ∨ (j = a ∧ v = true)) E (Bs.set a v) Rs Ds := by
  refine ⟨by rw [List.length_set]; exact h.bl, h.rl, h.dl, fun j hj => ?_, h.r, h.d⟩
  by_cases e : a = j
  · subst e
    rw [bt_set_eq (by rw [h.bl]; exact ha)]
    constructor
    · intro hv; exact .inr ⟨rfl, hv⟩
    · rintro (hc | ⟨_, hv⟩)
      · exact absurd hc hn
      · exact hv
  · rw [bt_set_ne e, h.b j hj]
    constructor
    · intro hc; exact .inl hc
    · rintro (hc | ⟨he, _⟩)
      · exact hc
      · exact absurd he.symm e
def setR (w a b : Nat) (l : List Bool) : List Bool := if a / w = b / w then l.set (min a b) true else l
def setD (w a b : Nat) (l : List Bool) : List Bool := if a / w = b / w then l else l.set (min a b) true
theorem Sg.bar {n w : Nat} {C : Nat → Prop} {E : Nat → Nat → Prop} {Bs Rs Ds : List Bool} (h : Sg n w C E Bs Rs Ds) {a b : Nat} (ha : a < n) (hb : b < n) : Sg n w C (fun x y => E x y ∨ (x = a ∧ y = b)) Bs (setR w a b Rs) (setD w a b Ds) := by
  have hm : min a b < n := by omega
  unfold setR setD
  by_cases e : a / w = b / w
  · rw [if_pos e, if_pos e]
    refine ⟨h.bl, by rw [List.length_set]; exact h.rl, h.dl, h.b, fun j hj => ?_, fun j hj => ?_⟩
    · by_cases ej : min a b = j
      · constructor
        · intro _; exact ⟨a, b, .inr ⟨rfl, rfl⟩, e, ej⟩
        · intro _; rw [← ej, bt_set_eq (by rw [h.rl]; exact hm)]
      · rw [bt_set_ne ej, h.r j hj]
        constructor
        · rintro ⟨x, y, h1, h2⟩; exact ⟨x, y, .inl h1, h2⟩
        · rintro ⟨x, y, h1 | ⟨rfl, rfl⟩, h2⟩
          · exact ⟨x, y, h1, h2⟩
          · exact absurd h2.2 ej
    · rw [h.d j hj]
      constructor
      · rintro ⟨x, y, h1, h2⟩; exact ⟨x, y, .inl h1, h2⟩
      · rintro ⟨x, y, h1 | ⟨rfl, rfl⟩, h2⟩
        · exact ⟨x, y, h1, h2⟩
        · exact absurd e h2.1
  · rw [if_neg e, if_neg e]
    refine ⟨h.bl, h.rl, by rw [List.length_set]; exact h.dl, h.b, fun j hj => ?_, fun j hj => ?_⟩
    · rw [h.r j hj]
      constructor
      · rintro ⟨x, y, h1, h2⟩; exact ⟨x, y, .inl h1, h2⟩
      · rintro ⟨x, y, h1 | ⟨rfl, rfl⟩, h2⟩
        · exact ⟨x, y, h1, h2⟩
        · exact absurd h2.1 e
    · by_cases ej : min a b = j
      · constructor
        · intro _; exact ⟨a, b, .inr ⟨rfl, rfl⟩, e, ej⟩
        · intro _; rw [← ej, bt_set_eq (by rw [h.dl]; exact hm)]
      · rw [bt_set_ne ej, h.d j hj]
        constructor
        · rintro ⟨x, y, h1, h2⟩; exact ⟨x, y, .inl h1, h2⟩
        · rintro ⟨x, y, h1 | ⟨rfl, rfl⟩, h2⟩
          · exact ⟨x, y, h1, h2⟩
          · exact absurd h2.2 ej

/-- The blocks and bars of the first m cells, turned. -/
def Gr.Cm (g : Gr) (k m : Nat) (j : Nat) : Prop := ∃ i, i < m ∧ g.to k i = j ∧ bt g.B i = true
def Gr.Em (g : Gr) (k m : Nat) (x y : Nat) : Prop := ∃ i, i < m ∧ x = g.to k i ∧ ((bt g.R i = true ∧ y = g.to k (i + 1)) ∨ (bt g.D i = true ∧ y = g.to k (i + g.W)))
def Gr.Stg (g : Gr) (k m : Nat) (Bs Rs Ds : List Bool) : Prop := Sg g.n (g.tw k) (g.Cm k m) (g.Em k m) Bs Rs Ds
theorem bt_rep (n j : Nat) : bt (List.replicate n false) j = false := by
  unfold bt
  by_cases h : j < n
  · rw [List.getElem?_replicate]; simp [h]
  · rw [List.getElem?_replicate]; simp [h]
theorem Gr.stg_zero (g : Gr) (k : Nat) : g.Stg k 0 (List.replicate g.n false) (List.replicate g.n false) (List.replicate g.n false) := by
  refine ⟨by simp, by simp, by simp, fun j _ => ?_, fun j _ => ?_, fun j _ => ?_⟩
  · rw [bt_rep]
    exact ⟨fun h => (Bool.false_ne_true h).elim, fun ⟨i, hi, _⟩ => absurd hi (Nat.not_lt_zero i)⟩
  · rw [bt_rep]
    exact ⟨fun h => (Bool.false_ne_true h).elim, fun ⟨x, y, ⟨i, hi, _⟩, _⟩ => absurd hi (Nat.not_lt_zero i)⟩
  · rw [bt_rep]
    exact ⟨fun h => (Bool.false_ne_true h).elim, fun ⟨x, y, ⟨i, hi, _⟩, _⟩ => absurd hi (Nat.not_lt_zero i)⟩
theorem Gr.right_in {g : Gr} (hr : g.Right) {i : Nat} (hi : i < g.n) (h : bt g.R i = true) : i % g.W + 1 < g.W ∧ i + 1 < g.n := by
  have hn := hr.nr i hi
  unfold Gr.badR at hn
  have h1 : ¬ i % g.W = g.W - 1 := fun e => hn ⟨h, .inr (.inl e)⟩
  have h2 : i % g.W < g.W := Nat.mod_lt _ (by have := hr.sw.1; omega)
  exact ⟨by omega, right_lt (H := g.H) (W := g.W) hi (by omega)⟩
theorem Gr.below_in {g : Gr} (hr : g.Right) {i : Nat} (hi : i < g.n) (h : bt g.D i = true) : i / g.W + 1 < g.H ∧ i + g.W < g.n := by
  have hn := hr.nd i hi
  unfold Gr.badD at hn
  have h1 : ¬ i / g.W = g.H - 1 := fun e => hn ⟨h, .inr (.inl e)⟩
  have h2 : i / g.W < g.H := row_lt hi
  have hs := hr.sh.1
  have h3 : i / g.W < g.H - 1 := by omega
  exact ⟨by omega, down_lt (H := g.H) (W := g.W) h3 (by have := hr.sw.1; omega)⟩
def ifR (c : Bool) (w a b : Nat) (l : List Bool) : List Bool := if c then setR w a b l else l
def ifD (c : Bool) (w a b : Nat) (l : List Bool) : List Bool := if c then setD w a b l else l
theorem Sg.ifbar {n w : Nat} {C : Nat → Prop} {E : Nat → Nat → Prop} {Bs Rs Ds : List Bool} (h : Sg n w C E Bs Rs Ds) (c : Bool) {a b : Nat} (ha : c = true → a < n ∧ b < n) : Sg n w C (fun x y => E x y ∨ (c = true ∧ x = a ∧ y = b)) Bs (ifR c w a b Rs) (ifD c w a b Ds) := by
  cases c with
  | true => exact (h.bar (ha rfl).1 (ha rfl).2).congr (fun _ => Iff.rfl) fun x y => by simp
  | false => exact h.congr (fun _ => Iff.rfl) fun x y => by simp
/-- ONE CELL MORE. -/
theorem Gr.stg_next {g : Gr} (hr : g.Right) {k m : Nat} (hk : k < 8) (hm : m < g.n) {Bs Rs Ds : List Bool} (h : g.Stg k m Bs Rs Ds) :
    g.Stg k (m + 1) (Bs.set (g.to k m) (bt g.B m)) (ifR (bt g.D m) (g.tw k) (g.to k m) (g.to k (m + g.W)) (ifR (bt g.R m) (g.tw k) (g.to k m) (g.to k (m + 1)) Rs)) (ifD (bt g.D m) (g.tw k) (g.to k m) (g.to k (m + g.W)) (ifD (bt g.R m) (g.tw k) (g.to k m) (g.to k (m + 1)) Ds)) := by
  have hnc : ¬ g.Cm k m (g.to k m) := fun ⟨i, hi, he, _⟩ => by
    have := Gr.to_inj (by omega) hm hk he
    omega
  have h1 := Sg.block h (Gr.to_lt hm k) hnc (bt g.B m)
  have h2 := h1.ifbar (bt g.R m) (a := g.to k m) (b := g.to k (m + 1)) (fun e => ⟨Gr.to_lt hm k, Gr.to_lt (Gr.right_in hr hm e).2 k⟩)
  have h3 := h2.ifbar (bt g.D m) (a := g.to k m) (b := g.to k (m + g.W)) (fun e => ⟨Gr.to_lt hm k, Gr.to_lt (Gr.below_in hr hm e).2 k⟩)
  refine h3.congr (fun j => ?_) (fun x y => ?_)
  · constructor
    · rintro (⟨i, hi, he, hb⟩ | ⟨he, hb⟩)
      · exact ⟨i, by omega, he, hb⟩
      · exact ⟨m, by omega, he.symm, hb⟩
    · rintro ⟨i, hi, he, hb⟩
      by_cases e : i = m
      · subst e; exact .inr ⟨he.symm, hb⟩
      · exact .inl ⟨i, by omega, he, hb⟩
  · constructor
    · rintro ((⟨i, hi, he⟩ | ⟨hb, hx, hy⟩) | ⟨hb, hx, hy⟩)
      · exact ⟨i, by omega, he⟩
      · exact ⟨m, by omega, hx, .inl ⟨hb, hy⟩⟩
      · exact ⟨m, by omega, hx, .inr ⟨hb, hy⟩⟩
    · rintro ⟨i, hi, hx, hc⟩
      by_cases e : i = m
      · subst e
        rcases hc with ⟨hb, hy⟩ | ⟨hb, hy⟩
        · exact .inl (.inr ⟨hb, hx, hy⟩)
        · exact .inr ⟨hb, hx, hy⟩
      · exact .inl (.inl ⟨i, by omega, hx, hc⟩)
end Go.Proofs.YthjgldjjplcncabDoor.Grd
/-
  A grid turned, laid cell by cell (layer 6), as mathematics: the end is the turned grid.
-/
namespace Go.Proofs.YthjgldjjplcncabDoor.Grd

theorem Gr.turn_sides (g : Gr) (k : Nat) : (g.fg.turn k).H = g.th k ∧ (g.fg.turn k).W = g.tw k := Fg.turn_hw g.fg k
theorem Gr.fg_b {g : Gr} {i : Nat} (hi : i < g.n) : g.fg.B (g.cel i).r (g.cel i).c = bt g.B i := by
  obtain ⟨h1, h2⟩ := div_in (h := g.H) (w := g.W) hi
  exact band_t ⟨h1, h2⟩ (by show bt g.B (i / g.W * g.W + i % g.W) = _; rw [at_back])
/-- The bar between a cell and the one at its right. -/
theorem Gr.bar_right {g : Gr} (_hr : g.Right) {i : Nat} (hi : i < g.n) (hc : i % g.W + 1 < g.W) : (g.cel i).By (g.cel (i + 1)) ∧ g.fg.bar (g.cel i) (g.cel (i + 1)) = bt g.R i := by
  obtain ⟨h1, h2⟩ := div_in (h := g.H) (w := g.W) hi
  obtain ⟨e1, e2⟩ := succ_mod (i := i) (W := g.W) (by omega)
  have er : (g.cel i).r = (g.cel (i + 1)).r := e2.symm
  refine ⟨.inl ⟨er, .inl e1.symm⟩, ?_⟩
  unfold Fg.bar
  rw [if_pos er]
  have em : min (g.cel i).c (g.cel (i + 1)).c = i % g.W := by
    show min (i % g.W) ((i + 1) % g.W) = _
    rw [e1]; omega
  rw [em]
  exact band_t (show i / g.W < g.H ∧ i % g.W + 1 < g.W from ⟨h1, hc⟩) (by show bt g.R (i / g.W * g.W + i % g.W) = _; rw [at_back])
theorem Gr.bar_below {g : Gr} (hr : g.Right) {i : Nat} (hi : i < g.n) (hc : i / g.W + 1 < g.H) : (g.cel i).By (g.cel (i + g.W)) ∧ g.fg.bar (g.cel i) (g.cel (i + g.W)) = bt g.D i := by
  obtain ⟨h1, h2⟩ := div_in (h := g.H) (w := g.W) hi
  have hw := hr.sw.1
  have e1 : (i + g.W) % g.W = i % g.W := Nat.add_mod_right _ _
  have e2 : (i + g.W) / g.W = i / g.W + 1 := Nat.add_div_right _ (by omega)
  have ec : (g.cel i).c = (g.cel (i + g.W)).c := e1.symm
  refine ⟨.inr ⟨ec, .inl e2.symm⟩, ?_⟩
  unfold Fg.bar
  have hn : ¬ (g.cel i).r = (g.cel (i + g.W)).r := by
    show ¬ i / g.W = (i + g.W) / g.W
    rw [e2]; omega
  rw [if_neg hn]
  have em : min (g.cel i).r (g.cel (i + g.W)).r = i / g.W := by
    show min (i / g.W) ((i + g.W) / g.W) = _
    rw [e2]; omega
  rw [em]
  exact band_t (show i / g.W + 1 < g.H ∧ i % g.W < g.W from ⟨hc, h2⟩) (by show bt g.D (i / g.W * g.W + i % g.W) = _; rw [at_back])
theorem min_row {w r c c' : Nat} : min (r * w + c) (r * w + c') = r * w + min c c' := by omega
theorem min_col {w r r' c : Nat} : min (r * w + c) (r' * w + c) = min r r' * w + c := by
  by_cases h : r ≤ r'
  · have := Nat.mul_le_mul_right w h
    rw [Nat.min_eq_left h]; omega
  · have h' : r' ≤ r := by omega
    have := Nat.mul_le_mul_right w h'
    rw [Nat.min_eq_right h']; omega
/-- The bar between two cells side by side, at its place in the turned grid. -/
theorem Gr.bar_at {g : Gr} {x y k : Nat} (hx : x < g.n) (hy : y < g.n) (hb : (g.cel x).By (g.cel y)) :
    (g.to k x / g.tw k = g.to k y / g.tw k → (g.fg.turn k).R (min (g.to k x) (g.to k y) / g.tw k) (min (g.to k x) (g.to k y) % g.tw k) = g.fg.bar (g.cel x) (g.cel y)) ∧
    (¬ g.to k x / g.tw k = g.to k y / g.tw k → (g.fg.turn k).D (min (g.to k x) (g.to k y) / g.tw k) (min (g.to k x) (g.to k y) % g.tw k) = g.fg.bar (g.cel x) (g.cel y)) := by
  obtain ⟨_, _, _, h4⟩ := Fg.go_turn (Gr.cel_of hx) (Gr.cel_of hy) k
  obtain ⟨hby, hbar⟩ := h4 hb
  have c1 := Gr.turn_c hx k
  have c2 := Gr.turn_c hy k
  rw [Gr.to_div hx, Gr.to_div hy, g.to_eq k x, g.to_eq k y]
  rw [← hbar]
  unfold Fg.bar
  generalize (g.cel x).turn k = P at *
  generalize (g.cel y).turn k = Q at *
  constructor
  · intro e
    rw [if_pos e, ← e, min_row, at_div (by omega), at_mod (by omega)]
  · intro e
    rcases hby with ⟨e', _⟩ | ⟨e', _⟩
    · exact absurd e' e
    · rw [if_neg e, ← e', min_col, at_div (by omega), at_mod (by omega)]
theorem Fg.bar_comm {G : Fg} {P Q : Pl} (h : P.r = Q.r ∨ P.c = Q.c) : G.bar Q P = G.bar P Q := by
  unfold Fg.bar
  by_cases e : P.r = Q.r
  · rw [if_pos e, if_pos e.symm, e, Nat.min_comm]
  · rcases h with h | h
    · exact absurd h e
    · rw [if_neg e, if_neg (fun h => e h.symm), h, Nat.min_comm]
/-- Cells whose turned ones stand side by side stand side by side; a bar between them is one of the grid's. -/
theorem Gr.bar_from {g : Gr} (hr : g.Right) {x y k : Nat} (hk : k < 8) (hx : x < g.n) (hy : y < g.n) (hb : ((g.cel x).turn k).By ((g.cel y).turn k)) (hbar : (g.fg.turn k).bar ((g.cel x).turn k) ((g.cel y).turn k) = true) :
    g.Em k g.n (g.to k x) (g.to k y) ∨ g.Em k g.n (g.to k y) (g.to k x) := by
  have o1 := (Fg.go_turn (Gr.cel_of hx) (Gr.cel_of hy) k).1
  have o2 := (Fg.go_turn (Gr.cel_of hx) (Gr.cel_of hy) k).2.1
  obtain ⟨_, _, _, h4⟩ := Fg.go_turn o1 o2 (bck k)
  obtain ⟨hby, hbr⟩ := h4 hb
  rw [Fg.turn_back g.fg_norm hk, Pl.turn_back (Fg.Of.inn (Gr.cel_of hx)) hk, Pl.turn_back (Fg.Of.inn (Gr.cel_of hy)) hk] at hbr
  rw [Pl.turn_back (Fg.Of.inn (Gr.cel_of hx)) hk, Pl.turn_back (Fg.Of.inn (Gr.cel_of hy)) hk] at hby
  rw [hbar] at hbr
  have hw := hr.sw.1
  have bx := at_back g.W x
  have b2 := at_back g.W y
  obtain ⟨x1, x2⟩ := div_in (h := g.H) (w := g.W) hx
  obtain ⟨y1, y2⟩ := div_in (h := g.H) (w := g.W) hy
  rcases hby with ⟨e, hc | hc⟩ | ⟨e, hc | hc⟩
  · have e' : x / g.W = y / g.W := e
    have hc' : x % g.W + 1 = y % g.W := hc
    have he : y = x + 1 := by rw [← e'] at b2; omega
    subst he
    obtain ⟨_, h2⟩ := Gr.bar_right hr hx (by omega)
    exact .inl ⟨x, hx, rfl, .inl ⟨h2.symm.trans hbr, rfl⟩⟩
  · have e' : x / g.W = y / g.W := e
    have hc' : y % g.W + 1 = x % g.W := hc
    have he : x = y + 1 := by rw [← e'] at b2; omega
    subst he
    obtain ⟨_, h2⟩ := Gr.bar_right hr hy (by omega)
    refine .inr ⟨y, hy, rfl, .inl ⟨h2.symm.trans ?_, rfl⟩⟩
    rw [Fg.bar_comm (.inl e)]; exact hbr
  · have e' : x % g.W = y % g.W := e
    have hc' : x / g.W + 1 = y / g.W := hc
    have he : y = x + g.W := by rw [← hc', Nat.succ_mul] at b2; omega
    subst he
    obtain ⟨_, h2⟩ := Gr.bar_below hr hx (by omega)
    exact .inl ⟨x, hx, rfl, .inr ⟨h2.symm.trans hbr, rfl⟩⟩
  · have e' : x % g.W = y % g.W := e
    have hc' : y / g.W + 1 = x / g.W := hc
    have he : x = y + g.W := by rw [← hc', Nat.succ_mul] at bx; omega
    subst he
    obtain ⟨_, h2⟩ := Gr.bar_below hr hy (by omega)
    refine .inr ⟨y, hy, rfl, .inr ⟨h2.symm.trans ?_, rfl⟩⟩
    rw [Fg.bar_comm (.inr e)]; exact hbr
theorem Gr.stg_r {g : Gr} (hr : g.Right) {k : Nat} (hk : k < 8) {Bs Rs Ds : List Bool} (h : g.Stg k g.n Bs Rs Ds) {j : Nat} (hj : j < g.n) : bt Rs j = (g.fg.turn k).R (j / g.tw k) (j % g.tw k) := by
  apply Bool.eq_iff_iff.2
  rw [h.r j hj]
  have hnorm := Fg.norm_turn g.fg_norm k
  constructor
  · rintro ⟨x, y, ⟨i, hi, rfl, hc⟩, hs, rfl⟩
    rcases hc with ⟨hb, rfl⟩ | ⟨hb, rfl⟩
    · obtain ⟨q1, q2⟩ := Gr.right_in hr hi hb
      obtain ⟨b1, b2⟩ := Gr.bar_right hr hi q1
      rw [(Gr.bar_at hi q2 b1).1 hs, b2, hb]
    · obtain ⟨q1, q2⟩ := Gr.below_in hr hi hb
      obtain ⟨b1, b2⟩ := Gr.bar_below hr hi q1
      rw [(Gr.bar_at hi q2 b1).1 hs, b2, hb]
  · intro ht
    obtain ⟨n1, n2⟩ := hnorm.r _ _ ht
    rw [(g.turn_sides k).1] at n1
    rw [(g.turn_sides k).2] at n2
    have hj' : j < g.th k * g.tw k := by rw [g.th_tw]; exact hj
    have hjr := right_lt hj' (show j % g.tw k < g.tw k - 1 by omega)
    rw [g.th_tw] at hjr
    obtain ⟨s1, s2⟩ := succ_mod (i := j) (W := g.tw k) (by omega)
    obtain ⟨x, hx, ex⟩ := Gr.from hj hk
    obtain ⟨y, hy, ey⟩ := Gr.from hjr hk
    have x1 := Gr.to_div hx k
    have x2 := Gr.to_mod hx k
    have y1 := Gr.to_div hy k
    have y2 := Gr.to_mod hy k
    rw [ex] at x1 x2
    rw [ey] at y1 y2
    rw [s2] at y1
    rw [s1] at y2
    have hby : ((g.cel x).turn k).By ((g.cel y).turn k) := .inl ⟨by omega, .inl (by omega)⟩
    have hbar : (g.fg.turn k).bar ((g.cel x).turn k) ((g.cel y).turn k) = true := by
      unfold Fg.bar
      rw [if_pos (by omega), ← x1, ← x2, ← y2, Nat.min_eq_left (by omega)]
      exact ht
    rcases Gr.bar_from hr hk hx hy hby hbar with he | he
    · rw [ex, ey] at he
      exact ⟨j, j + 1, he, s2.symm, by omega⟩
    · rw [ex, ey] at he
      exact ⟨j + 1, j, he, s2, by omega⟩
theorem Gr.stg_d {g : Gr} (hr : g.Right) {k : Nat} (hk : k < 8) {Bs Rs Ds : List Bool} (h : g.Stg k g.n Bs Rs Ds) {j : Nat} (hj : j < g.n) : bt Ds j = (g.fg.turn k).D (j / g.tw k) (j % g.tw k) := by
  apply Bool.eq_iff_iff.2
  rw [h.d j hj]
  have hnorm := Fg.norm_turn g.fg_norm k
  have hw : 0 < g.tw k := by
    have a := hr.sh.1
    have b := hr.sw.1
    unfold Gr.tw
    by_cases e : k % 2 = 1
    · rw [if_pos e]; omega
    · rw [if_neg e]; omega
  constructor
  · rintro ⟨x, y, ⟨i, hi, rfl, hc⟩, hs, rfl⟩
    rcases hc with ⟨hb, rfl⟩ | ⟨hb, rfl⟩
    · obtain ⟨q1, q2⟩ := Gr.right_in hr hi hb
      obtain ⟨b1, b2⟩ := Gr.bar_right hr hi q1
      rw [(Gr.bar_at hi q2 b1).2 hs, b2, hb]
    · obtain ⟨q1, q2⟩ := Gr.below_in hr hi hb
      obtain ⟨b1, b2⟩ := Gr.bar_below hr hi q1
      rw [(Gr.bar_at hi q2 b1).2 hs, b2, hb]
  · intro ht
    obtain ⟨n1, n2⟩ := hnorm.d _ _ ht
    rw [(g.turn_sides k).1] at n1
    rw [(g.turn_sides k).2] at n2
    have hjr := down_lt (i := j) (W := g.tw k) (H := g.th k) (by omega) hw
    rw [g.th_tw] at hjr
    have s1 : (j + g.tw k) % g.tw k = j % g.tw k := Nat.add_mod_right _ _
    have s2 : (j + g.tw k) / g.tw k = j / g.tw k + 1 := Nat.add_div_right _ hw
    obtain ⟨x, hx, ex⟩ := Gr.from hj hk
    obtain ⟨y, hy, ey⟩ := Gr.from hjr hk
    have x1 := Gr.to_div hx k
    have x2 := Gr.to_mod hx k
    have y1 := Gr.to_div hy k
    have y2 := Gr.to_mod hy k
    rw [ex] at x1 x2
    rw [ey] at y1 y2
    rw [s2] at y1
    rw [s1] at y2
    have hby : ((g.cel x).turn k).By ((g.cel y).turn k) := .inr ⟨by omega, .inl (by omega)⟩
    have hbar : (g.fg.turn k).bar ((g.cel x).turn k) ((g.cel y).turn k) = true := by
      unfold Fg.bar
      rw [if_neg (by omega), ← x1, ← x2, ← y1, Nat.min_eq_left (by omega)]
      exact ht
    rcases Gr.bar_from hr hk hx hy hby hbar with he | he
    · rw [ex, ey] at he
      exact ⟨j, j + g.tw k, he, by omega, by omega⟩
    · rw [ex, ey] at he
      exact ⟨j + g.tw k, j, he, by omega, by omega⟩
theorem Gr.stg_b {g : Gr} {k : Nat} (hk : k < 8) {Bs Rs Ds : List Bool} (h : g.Stg k g.n Bs Rs Ds) {j : Nat} (hj : j < g.n) : bt Bs j = (g.fg.turn k).B (j / g.tw k) (j % g.tw k) := by
  apply Bool.eq_iff_iff.2
  rw [h.b j hj]
  have key : ∀ x, x < g.n → (g.fg.turn k).B (g.to k x / g.tw k) (g.to k x % g.tw k) = bt g.B x := fun x hx => by
    rw [Gr.to_div hx, Gr.to_mod hx, (Fg.go_turn (Gr.cel_of hx) (Gr.cel_of hx) k).2.2.1, Gr.fg_b hx]
  constructor
  · rintro ⟨i, hi, rfl, hb⟩
    rw [key i hi, hb]
  · intro ht
    obtain ⟨x, hx, rfl⟩ := Gr.from hj hk
    rw [key x hx] at ht
    exact ⟨x, hx, rfl, ht⟩
theorem Gr.turn_n (g : Gr) (k : Nat) : (g.turn k).n = g.n := by
  show (g.fg.turn k).gr.n = _
  rw [Fg.gr_n, (g.turn_sides k).1, (g.turn_sides k).2, g.th_tw]
/-- ALL CELLS LAID: the turned grid. -/
theorem Gr.stg_end {g : Gr} (hr : g.Right) {k : Nat} (hk : k < 8) {Bs Rs Ds : List Bool} (h : g.Stg k g.n Bs Rs Ds) : Bs = (g.turn k).B ∧ Rs = (g.turn k).R ∧ Ds = (g.turn k).D := by
  have hN : (g.fg.turn k).H * (g.fg.turn k).W = g.n := by rw [(g.turn_sides k).1, (g.turn_sides k).2, g.th_tw]
  refine ⟨(list_map (h.bl.trans hN.symm) fun i hi => ?_).symm, (list_map (h.rl.trans hN.symm) fun i hi => ?_).symm, (list_map (h.dl.trans hN.symm) fun i hi => ?_).symm⟩
  · rw [(g.turn_sides k).2]; exact (Gr.stg_b hk h (by omega)).symm
  · rw [(g.turn_sides k).2]; exact (Gr.stg_r hr hk h (by omega)).symm
  · rw [(g.turn_sides k).2]; exact (Gr.stg_d hr hk h (by omega)).symm
theorem Gr.turn_hw (g : Gr) (k : Nat) : (g.turn k).h = (g.th k : Nat) ∧ (g.turn k).w = (g.tw k : Nat) := by
  show ((g.fg.turn k).H : Int) = _ ∧ ((g.fg.turn k).W : Int) = _
  rw [(g.turn_sides k).1, (g.turn_sides k).2]
  exact ⟨rfl, rfl⟩
end Go.Proofs.YthjgldjjplcncabDoor.Grd
/-
  Layer 6: moved (a cell's place behind a turn), for right arguments.
-/
namespace Go.Proofs.YthjgldjjplcncabDoor.Grd
open Go Go.Lib Go.RowKit

theorem Pl.qs_le {P : Pl} (h1 : P.h ≤ 16) (h2 : P.w ≤ 16) (n : Nat) : (P.qs n).h ≤ 16 ∧ (P.qs n).w ≤ 16 := by
  obtain ⟨e1, e2⟩ := Pl.qs_hw P n
  rw [e1, e2]
  by_cases e : n % 2 = 1
  · rw [if_pos e, if_pos e]; exact ⟨h2, h1⟩
  · rw [if_neg e, if_neg e]; exact ⟨h1, h2⟩

set_option maxHeartbeats 1000000 in
theorem moved_any (h w i k : Nat) (h1 : 1 ≤ h ∧ h ≤ 16) (w1 : 1 ≤ w ∧ w ≤ 16) (hi : i < h * w) (hk : k < 8) (W : World) :
    Calls Tryd.prog 33 #[.agg #[.int .i64 h, .int .i64 w], .int .i64 i, .int .i64 k] W fun e W' => e = .returned (.int .i64 (plc h w i k : Nat)) ∧ Below W.heap.size W W' := by
  have hw0 : ¬ (w : Int) = 0 := by omega
  obtain ⟨hr, hc⟩ := div_in hi
  have hi2 : i < 257 := Nat.lt_of_lt_of_le hi (Nat.le_trans (Nat.mul_le_mul h1.2 w1.2) (by omega))
  have HP : Aside (∀ P : Pl, P = (if 3 < k then (Pl.mk h w (i / w) (i % w)).m else Pl.mk h w (i / w) (i % w)) → (P.qs (k % 4)).r * (P.qs (k % 4)).w + (P.qs (k % 4)).c = plc h w i k) := fun P e => by rw [e]; rfl
  have HI : Aside (∀ P : Pl, P = (if 3 < k then (Pl.mk h w (i / w) (i % w)).m else Pl.mk h w (i / w) (i % w)) → P.In ∧ P.h ≤ 16 ∧ P.w ≤ 16) := fun P e => by
    rw [e]
    by_cases h3 : 3 < k
    · rw [if_pos h3]; exact ⟨Pl.in_m (P := Pl.mk h w (i / w) (i % w)) ⟨hr, hc⟩, h1.2, w1.2⟩
    · rw [if_neg h3]; exact ⟨⟨hr, hc⟩, h1.2, w1.2⟩
  have hdiv : (i : Int) / (w : Int) = ((i / w : Nat) : Int) := (Int.natCast_ediv _ _).symm
  have hmod : (i : Int) % (w : Int) = ((i % w : Nat) : Int) := (Int.natCast_emod _ _).symm
  generalize i / w = r0 at *
  generalize i % w = c0 at *
  generalize plc h w i k = ans at *
  have hk4 : (k : Int) % 4 = ((k % 4 : Nat) : Int) := by omega
  have cM := fun W => isMirrored_any (k : Int) W
  have hq4 : k % 4 < 4 := Nat.mod_lt _ (by omega)
  by_cases h3 : 3 < k
  · simp only [decide_eq_true (show (4 : Int) ≤ (k : Int) by omega)] at cM
    rw [if_pos h3] at HP HI
    obtain ⟨P, hP⟩ : ∃ P, P = (Pl.mk h w r0 c0).m := ⟨_, rfl⟩
    have HQA : Aside (_ = ans) := HP.out P hP
    have HPA : Aside (P.In ∧ P.h ≤ 16 ∧ P.w ≤ 16) := HI.out P hP
    clear HP HI
    generalize k % 4 = q at *
    go_enter Tryd.func33, Tryd.ntmps33
    go_wp2
    go_big_region
    go_wp2_with fail
    refine (cM _).mono ?_
    rintro e W0 ⟨rfl, hW0⟩
    have S1 : Two W0 W.heap.size 80 (.int .i64 h) (.int .i64 w) := ⟨by rw [hW0]; exact heap_alloc2_old W _ _⟩
    have S2 : Two W0 (W.heap.size + 1) 90 (.int .i64 r0) (.int .i64 c0) := ⟨by rw [hW0]; exact heap_alloc2_new W _ _⟩
    have B0 : Below W.heap.size W W0 := by rw [hW0]; exact Below.drew ((below_one W _).alloc (below_one W _).size _)
    clear hW0 cM
    have k0 := S1.c0
    have k1 := S1.c1
    have m0 := S2.c0
    have m1 := S2.c1
    have cR := mirror_any r0 c0 h w hc (by omega) W0
    go_wp2_with fail
    refine cR.mono ?_
    rintro e W1 ⟨rfl, hb1⟩
    have T1 := S1.keep hb1
    have T2 := S2.keep hb1
    have B1 : Below W.heap.size W W1 := B0.trans (hb1.mono B0.size)
    have f0 := T2.fr 0
    have f1 := T2.fr 1
    have H1 : Aside (Two ((W1.setCell ⟨W.heap.size + 1, 0, none⟩ (.int .i64 r0)).setCell ⟨W.heap.size + 1, 1, none⟩ (.int .i64 ((w - 1 - c0 : Nat) : Int))) W.heap.size 80 (.int .i64 (P.qs 0).h) (.int .i64 (P.qs 0).w) ∧ Two ((W1.setCell ⟨W.heap.size + 1, 0, none⟩ (.int .i64 r0)).setCell ⟨W.heap.size + 1, 1, none⟩ (.int .i64 ((w - 1 - c0 : Nat) : Int))) (W.heap.size + 1) 90 (.int .i64 (P.qs 0).r) (.int .i64 (P.qs 0).c) ∧ Below W.heap.size W ((W1.setCell ⟨W.heap.size + 1, 0, none⟩ (.int .i64 r0)).setCell ⟨W.heap.size + 1, 1, none⟩ (.int .i64 ((w - 1 - c0 : Nat) : Int)))) := by
      rw [hP]
      exact ⟨(T1.other (by omega)).other (by omega), (T2.set0 _).set1 _, Below.put (Below.put B1 (by omega) B1.size) (by omega) (by simpa using B1.size)⟩
    clear k0 k1 m0 m1
    have m0 := T2.c0
    have m1 := T2.c1
    clear S1 S2 T1 T2 B0 B1 hb1 cR hP
    go_wp2
    rw [hk4]
    clear hk4
    go_loopg [24] 4 (fun g1 iv wr => ∃ j : Nat, iv = .int .i64 (j : Int) ∧ j ≤ q ∧ q - j ≤ g1 ∧ Aside (Two wr W.heap.size 80 (.int .i64 (P.qs j).h) (.int .i64 (P.qs j).w) ∧ Two wr (W.heap.size + 1) 90 (.int .i64 (P.qs j).r) (.int .i64 (P.qs j).c) ∧ Below W.heap.size W wr))
    case atStart => exact ⟨0, rfl, Nat.zero_le _, by omega, H1⟩
    case round =>
      clear H1
      obtain ⟨j, rfl, hj, hg, H1⟩ := hrel
      obtain ⟨T1, T2, HB⟩ := H1.out
      have HBA : Aside (Below W.heap.size W wr) := HB
      have HXI : Aside (P.qs j).In := Pl.in_qs HPA.out.1 j
      obtain ⟨hX1, hX2⟩ := Pl.qs_le HPA.out.2.1 HPA.out.2.2 j
      have hX3 := HXI.out.1
      have hX4 := HXI.out.2
      have k0 := T1.c0
      have k1 := T1.c1
      have m0 := T2.c0
      have m1 := T2.c1
      clear HB
      by_cases hlt : j < q
      · have hltz : (j : Int) < (q : Int) := by omega
        have cQ := quarter_any (P.qs j).r (P.qs j).c (P.qs j).h (P.qs j).w hX3 (by omega) wr
        go_wp2_with fail
        refine cQ.mono ?_
        rintro e w2 ⟨rfl, hb2⟩
        have S1 := T1.keep hb2
        have S2 := T2.keep hb2
        have HB2 : Below W.heap.size W w2 := HBA.out.trans (hb2.mono HBA.out.size)
        have f0 := S1.fr 0
        have f1 := S1.fr 1
        have g0 := S2.fr 0
        have g1 := S2.fr 1
        have T5 : Aside (Two ((((w2.setCell ⟨W.heap.size + 1, 0, none⟩ (.int .i64 (P.qs j).c)).setCell ⟨W.heap.size + 1, 1, none⟩ (.int .i64 (((P.qs j).h - 1 - (P.qs j).r : Nat) : Int))).setCell ⟨W.heap.size, 0, none⟩ (.int .i64 (P.qs j).w)).setCell ⟨W.heap.size, 1, none⟩ (.int .i64 (P.qs j).h)) W.heap.size 80 (.int .i64 (P.qs (j + 1)).h) (.int .i64 (P.qs (j + 1)).w) ∧ Two ((((w2.setCell ⟨W.heap.size + 1, 0, none⟩ (.int .i64 (P.qs j).c)).setCell ⟨W.heap.size + 1, 1, none⟩ (.int .i64 (((P.qs j).h - 1 - (P.qs j).r : Nat) : Int))).setCell ⟨W.heap.size, 0, none⟩ (.int .i64 (P.qs j).w)).setCell ⟨W.heap.size, 1, none⟩ (.int .i64 (P.qs j).h)) (W.heap.size + 1) 90 (.int .i64 (P.qs (j + 1)).r) (.int .i64 (P.qs (j + 1)).c) ∧ Below W.heap.size W ((((w2.setCell ⟨W.heap.size + 1, 0, none⟩ (.int .i64 (P.qs j).c)).setCell ⟨W.heap.size + 1, 1, none⟩ (.int .i64 (((P.qs j).h - 1 - (P.qs j).r : Nat) : Int))).setCell ⟨W.heap.size, 0, none⟩ (.int .i64 (P.qs j).w)).setCell ⟨W.heap.size, 1, none⟩ (.int .i64 (P.qs j).h))) :=
          ⟨((((S1.other (by omega)).other (by omega)).set0 _).set1 _), ((((S2.set0 _).set1 _).other (by omega)).other (by omega)), Below.put (Below.put (Below.put (Below.put HB2 (by omega) HB2.size) (by omega) (by simpa using HB2.size)) (by omega) (by simpa using HB2.size)) (by omega) (by simpa using HB2.size)⟩
        clear k0 k1 m0 m1
        have k0 := S1.c0
        have k1 := S1.c1
        have m0 := S2.c0
        have m1 := S2.c1
        clear cQ hb2 T1 T2 S1 S2 HB2
        go_wp2
        go_roundg (q - (j + 1))
        case measure => omega
        case rel => exact ⟨j + 1, by go_num, by omega, Nat.le_refl _, T5⟩
      · have hltz : ¬ (j : Int) < (q : Int) := by omega
        obtain rfl : j = q := by omega
        have hml : (P.qs j).r * (P.qs j).w ≤ 256 := Nat.le_trans (Nat.mul_le_mul (show (P.qs j).r ≤ 16 by omega) hX2) (by omega)
        have hmul : ((P.qs j).r : Int) * ((P.qs j).w : Int) = (((P.qs j).r * (P.qs j).w : Nat) : Int) := (Int.natCast_mul _ _).symm
        have HQ := HQA.out
        generalize (P.qs j).r * (P.qs j).w = m at *
        have HQ2 : Aside (((m : Nat) : Int) + ((P.qs j).c : Int) = (ans : Int)) := by show _ = _; omega
        clear T1 T2 HQ HQA
        go_wp2
        go_ret
        refine ⟨?_, HBA.out⟩
        rw [← HQ2.out]
        rfl
  · simp only [decide_eq_false (show ¬ (4 : Int) ≤ (k : Int) by omega)] at cM
    rw [if_neg h3] at HP HI
    obtain ⟨P, hP⟩ : ∃ P, P = Pl.mk h w r0 c0 := ⟨_, rfl⟩
    have HQA : Aside (_ = ans) := HP.out P hP
    have HPA : Aside (P.In ∧ P.h ≤ 16 ∧ P.w ≤ 16) := HI.out P hP
    clear HP HI
    generalize k % 4 = q at *
    go_enter Tryd.func33, Tryd.ntmps33
    go_wp2
    go_big_region
    go_wp2_with fail
    refine (cM _).mono ?_
    rintro e W0 ⟨rfl, hW0⟩
    have S1 : Two W0 W.heap.size 80 (.int .i64 h) (.int .i64 w) := ⟨by rw [hW0]; exact heap_alloc2_old W _ _⟩
    have S2 : Two W0 (W.heap.size + 1) 90 (.int .i64 r0) (.int .i64 c0) := ⟨by rw [hW0]; exact heap_alloc2_new W _ _⟩
    have B0 : Below W.heap.size W W0 := by rw [hW0]; exact Below.drew ((below_one W _).alloc (below_one W _).size _)
    clear hW0 cM
    have H1 : Aside (Two W0 W.heap.size 80 (.int .i64 (P.qs 0).h) (.int .i64 (P.qs 0).w) ∧ Two W0 (W.heap.size + 1) 90 (.int .i64 (P.qs 0).r) (.int .i64 (P.qs 0).c) ∧ Below W.heap.size W W0) := by
      rw [hP]
      exact ⟨S1, S2, B0⟩
    clear S1 S2 B0 hP
    go_wp2
    rw [hk4]
    clear hk4
    go_loopg [24] 4 (fun g1 iv wr => ∃ j : Nat, iv = .int .i64 (j : Int) ∧ j ≤ q ∧ q - j ≤ g1 ∧ Aside (Two wr W.heap.size 80 (.int .i64 (P.qs j).h) (.int .i64 (P.qs j).w) ∧ Two wr (W.heap.size + 1) 90 (.int .i64 (P.qs j).r) (.int .i64 (P.qs j).c) ∧ Below W.heap.size W wr))
    case atStart => exact ⟨0, rfl, Nat.zero_le _, by omega, H1⟩
    case round =>
      clear H1
      obtain ⟨j, rfl, hj, hg, H1⟩ := hrel
      obtain ⟨T1, T2, HB⟩ := H1.out
      have HBA : Aside (Below W.heap.size W wr) := HB
      have HXI : Aside (P.qs j).In := Pl.in_qs HPA.out.1 j
      obtain ⟨hX1, hX2⟩ := Pl.qs_le HPA.out.2.1 HPA.out.2.2 j
      have hX3 := HXI.out.1
      have hX4 := HXI.out.2
      have k0 := T1.c0
      have k1 := T1.c1
      have m0 := T2.c0
      have m1 := T2.c1
      clear HB
      by_cases hlt : j < q
      · have hltz : (j : Int) < (q : Int) := by omega
        have cQ := quarter_any (P.qs j).r (P.qs j).c (P.qs j).h (P.qs j).w hX3 (by omega) wr
        go_wp2_with fail
        refine cQ.mono ?_
        rintro e w2 ⟨rfl, hb2⟩
        have S1 := T1.keep hb2
        have S2 := T2.keep hb2
        have HB2 : Below W.heap.size W w2 := HBA.out.trans (hb2.mono HBA.out.size)
        have f0 := S1.fr 0
        have f1 := S1.fr 1
        have g0 := S2.fr 0
        have g1 := S2.fr 1
        have T5 : Aside (Two ((((w2.setCell ⟨W.heap.size + 1, 0, none⟩ (.int .i64 (P.qs j).c)).setCell ⟨W.heap.size + 1, 1, none⟩ (.int .i64 (((P.qs j).h - 1 - (P.qs j).r : Nat) : Int))).setCell ⟨W.heap.size, 0, none⟩ (.int .i64 (P.qs j).w)).setCell ⟨W.heap.size, 1, none⟩ (.int .i64 (P.qs j).h)) W.heap.size 80 (.int .i64 (P.qs (j + 1)).h) (.int .i64 (P.qs (j + 1)).w) ∧ Two ((((w2.setCell ⟨W.heap.size + 1, 0, none⟩ (.int .i64 (P.qs j).c)).setCell ⟨W.heap.size + 1, 1, none⟩ (.int .i64 (((P.qs j).h - 1 - (P.qs j).r : Nat) : Int))).setCell ⟨W.heap.size, 0, none⟩ (.int .i64 (P.qs j).w)).setCell ⟨W.heap.size, 1, none⟩ (.int .i64 (P.qs j).h)) (W.heap.size + 1) 90 (.int .i64 (P.qs (j + 1)).r) (.int .i64 (P.qs (j + 1)).c) ∧ Below W.heap.size W ((((w2.setCell ⟨W.heap.size + 1, 0, none⟩ (.int .i64 (P.qs j).c)).setCell ⟨W.heap.size + 1, 1, none⟩ (.int .i64 (((P.qs j).h - 1 - (P.qs j).r : Nat) : Int))).setCell ⟨W.heap.size, 0, none⟩ (.int .i64 (P.qs j).w)).setCell ⟨W.heap.size, 1, none⟩ (.int .i64 (P.qs j).h))) :=
          ⟨((((S1.other (by omega)).other (by omega)).set0 _).set1 _), ((((S2.set0 _).set1 _).other (by omega)).other (by omega)), Below.put (Below.put (Below.put (Below.put HB2 (by omega) HB2.size) (by omega) (by simpa using HB2.size)) (by omega) (by simpa using HB2.size)) (by omega) (by simpa using HB2.size)⟩
        clear k0 k1 m0 m1
        have k0 := S1.c0
        have k1 := S1.c1
        have m0 := S2.c0
        have m1 := S2.c1
        clear cQ hb2 T1 T2 S1 S2 HB2
        go_wp2
        go_roundg (q - (j + 1))
        case measure => omega
        case rel => exact ⟨j + 1, by go_num, by omega, Nat.le_refl _, T5⟩
      · have hltz : ¬ (j : Int) < (q : Int) := by omega
        obtain rfl : j = q := by omega
        have hml : (P.qs j).r * (P.qs j).w ≤ 256 := Nat.le_trans (Nat.mul_le_mul (show (P.qs j).r ≤ 16 by omega) hX2) (by omega)
        have hmul : ((P.qs j).r : Int) * ((P.qs j).w : Int) = (((P.qs j).r * (P.qs j).w : Nat) : Int) := (Int.natCast_mul _ _).symm
        have HQ := HQA.out
        generalize (P.qs j).r * (P.qs j).w = m at *
        have HQ2 : Aside (((m : Nat) : Int) + ((P.qs j).c : Int) = (ans : Int)) := by show _ = _; omega
        clear T1 T2 HQ HQA
        go_wp2
        go_ret
        refine ⟨?_, HBA.out⟩
        rw [← HQ2.out]
        rfl
end Go.Proofs.YthjgldjjplcncabDoor.Grd
