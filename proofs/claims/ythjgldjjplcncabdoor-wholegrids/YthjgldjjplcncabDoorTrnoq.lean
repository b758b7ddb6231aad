/-
  Layer 6: blank and setBar: a grid of new memory, a bar laid in it.
-/
import Derived.Test.YthjgldjjplcncabDoorGtk
import Derived.Test.YthjgldjjplcncabDoorGrdqq
import Derived.Test.YthjgldjjplcncabDoorGgo
import Derived.Laws.OwnMore
namespace Go.Proofs.YthjgldjjplcncabDoor.Grd
open Go Go.Lib Go.RowKit

/-- Two worlds that differ in some blocks and in new ones alone. -/
structure Dif (O : Nat → Prop) (w w' : World) : Prop where
  os : w'.os = w.os
  tape : w'.tape = w.tape
  output : w'.output = w.output
  size : w.heap.size ≤ w'.heap.size
  block : ∀ k, k < w.heap.size → ¬ O k → w'.heap[k]? = w.heap[k]?
theorem Dif.refl (O : Nat → Prop) (w : World) : Dif O w w := ⟨rfl, rfl, rfl, Nat.le_refl _, fun _ _ _ => rfl⟩
theorem Dif.trans {O : Nat → Prop} {a b c : World} (h : Dif O a b) (k : Dif O b c) : Dif O a c := ⟨k.os.trans h.os, k.tape.trans h.tape, k.output.trans h.output, Nat.le_trans h.size k.size, fun i hi ho => (k.block i (by have := h.size; omega) ho).trans (h.block i hi ho)⟩
theorem Dif.mono {O O' : Nat → Prop} {a b : World} (h : Dif O a b) (hm : ∀ k, k < a.heap.size → O k → O' k) : Dif O' a b := ⟨h.os, h.tape, h.output, h.size, fun k hk ho => h.block k hk fun h1 => ho (hm k hk h1)⟩
theorem Dif.of_below {O : Nat → Prop} {a b : World} (h : Below a.heap.size a b) : Dif O a b := ⟨h.os, h.tape, h.output, h.size, fun k hk _ => h.block k hk⟩
theorem Dif.cell {O : Nat → Prop} {a b : World} (h : Dif O a b) {p : Addr} (hp : p.block < a.heap.size) (ho : ¬ O p.block) : b.cell? p = a.cell? p := by simp only [World.cell?, h.block p.block hp ho]
theorem Dif.below {O : Nat → Prop} {a b : World} (h : Dif O a b) {B : Nat} (hO : ∀ k, k < B → k < a.heap.size → ¬ O k) (hB : B ≤ a.heap.size) : Below B a b := ⟨h.os, h.tape, h.output, h.size, fun k hk => h.block k (by omega) (hO k hk (by omega))⟩
theorem Dif.set {O : Nat → Prop} {a b : World} (h : Dif O a b) (B j : Nat) (v : Value) (hB : O B) : Dif O a (b.setCell ⟨B, j, none⟩ v) :=
  h.trans ⟨rfl, rfl, rfl, by simp, fun k _ ho => heap_setCell_other b ⟨B, j, none⟩ k v (fun e => ho (e ▸ hB))⟩
theorem Dif.row {O : Nat → Prop} {a b : World} (h : Dif O a b) {B g c n : Nat} {xs : List Value} (hr : a.ownsRow B 4 1 (.slice (some ⟨g, 0, none⟩) n c) n xs) (ho : ¬ O g) : b.ownsRow B 4 1 (.slice (some ⟨g, 0, none⟩) n c) n xs := by
  rcases hr with ⟨h1, h2 | ⟨g', cap, cur, e1, e2, e3, e4⟩⟩
  · exact ⟨h1, .inl h2⟩
  · have eg : g' = g := by injection e1 with e1; injection e1 with e1; injection e1 with e1; exact e1.symm
    subst eg
    exact ⟨h1, .inr ⟨g', cap, cur, e1, e2, (h.block g' (Array.getElem?_eq_some_iff.1 e3).1 ho).trans e3, e4⟩⟩
theorem MadeG.dif {B : Nat} {W W' : World} {n g1 g2 g3 : Nat} {xs ys zs : List Bool} (h : MadeG B W n g1 g2 g3 xs ys zs) (hb : Below W.heap.size W W') : MadeG B W' n g1 g2 g3 xs ys zs :=
  ⟨h.n12, h.n13, h.n23, (Dif.of_below (O := fun _ => False) hb).row h.r1 id, (Dif.of_below (O := fun _ => False) hb).row h.r2 id, (Dif.of_below (O := fun _ => False) hb).row h.r3 id⟩
theorem cellsB_set (zs : List Bool) (j : Nat) (v : Bool) : (cellsB zs).set j (.bool v) = cellsB (zs.set j v) := by simp [cellsB, List.map_set]
theorem cellsB_at {zs : List Bool} {j : Nat} (h : j < zs.length) : (cellsB zs)[j]? = some (.bool (bt zs j)) := by
  simp [cellsB, bt, List.getElem?_eq_getElem h]
theorem MadeG.len {B : Nat} {W : World} {n g1 g2 g3 : Nat} {xs ys zs : List Bool} (h : MadeG B W n g1 g2 g3 xs ys zs) : xs.length = n ∧ ys.length = n ∧ zs.length = n := by
  have a := h.r1.1
  have b := h.r2.1
  have c := h.r3.1
  rw [cellsB_length] at a b c
  omega
/-- The grid's value of three lists of its own. -/
def gv3 (h w n g1 g2 g3 : Nat) : Value := .agg #[.int .i64 h, .int .i64 w, .slice (some ⟨g1, 0, none⟩) n n, .slice (some ⟨g2, 0, none⟩) n n, .slice (some ⟨g3, 0, none⟩) n n]
theorem MadeG.base {B B' : Nat} {W : World} {n g1 g2 g3 : Nat} {xs ys zs : List Bool} (h : MadeG B W n g1 g2 g3 xs ys zs) (hb : B' ≤ B) : MadeG B' W n g1 g2 g3 xs ys zs :=
  ⟨h.n12, h.n13, h.n23, row_base h.r1 hb, row_base h.r2 hb, row_base h.r3 hb⟩
theorem MadeG.lo {B : Nat} {W : World} {n g1 g2 g3 : Nat} {xs ys zs : List Bool} (h : MadeG B W n g1 g2 g3 xs ys zs) : (B ≤ g1 ∧ g1 < W.heap.size) ∧ (B ≤ g2 ∧ g2 < W.heap.size) ∧ B ≤ g3 ∧ g3 < W.heap.size := ⟨h.r1.lt g1 rfl, h.r2.lt g2 rfl, h.r3.lt g3 rfl⟩
/-- A store below its memory. -/
theorem MadeG.setLow {B c j : Nat} {W : World} {n g1 g2 g3 : Nat} {xs ys zs : List Bool} {u : Value} (h : MadeG B W n g1 g2 g3 xs ys zs) (hc : c < B) : MadeG B (W.setCell ⟨c, j, none⟩ u) n g1 g2 g3 xs ys zs := by
  have hd : Dif (fun k => k = c) W (W.setCell ⟨c, j, none⟩ u) := (Dif.refl _ _).set c j _ rfl
  obtain ⟨a, b, d⟩ := h.lo
  exact ⟨h.n12, h.n13, h.n23, hd.row h.r1 (by omega), hd.row h.r2 (by omega), hd.row h.r3 (by omega)⟩
/-- A cell of one of the lists stored. -/
theorem MadeG.put1 {B : Nat} {W : World} {n g1 g2 g3 : Nat} {xs ys zs : List Bool} (h : MadeG B W n g1 g2 g3 xs ys zs) {j : Nat} (v : Bool) : MadeG B (W.setCell ⟨g1, j, none⟩ (.bool v)) n g1 g2 g3 (xs.set j v) ys zs := by
  have hd : Dif (fun k => k = g1) W (W.setCell ⟨g1, j, none⟩ (.bool v)) := (Dif.refl _ _).set g1 j _ rfl
  have hy := (h.r1.stored j (.bool v)).1
  rw [cellsB_set] at hy
  exact ⟨h.n12, h.n13, h.n23, hy, hd.row h.r2 (fun e => h.n12 e.symm), hd.row h.r3 (fun e => h.n13 e.symm)⟩
theorem MadeG.put2 {B : Nat} {W : World} {n g1 g2 g3 : Nat} {xs ys zs : List Bool} (h : MadeG B W n g1 g2 g3 xs ys zs) {j : Nat} (v : Bool) : MadeG B (W.setCell ⟨g2, j, none⟩ (.bool v)) n g1 g2 g3 xs (ys.set j v) zs := by
  have hd : Dif (fun k => k = g2) W (W.setCell ⟨g2, j, none⟩ (.bool v)) := (Dif.refl _ _).set g2 j _ rfl
  have hy := (h.r2.stored j (.bool v)).1
  rw [cellsB_set] at hy
  exact ⟨h.n12, h.n13, h.n23, hd.row h.r1 h.n12, hy, hd.row h.r3 (fun e => h.n23 e.symm)⟩
theorem MadeG.put3 {B : Nat} {W : World} {n g1 g2 g3 : Nat} {xs ys zs : List Bool} (h : MadeG B W n g1 g2 g3 xs ys zs) {j : Nat} (v : Bool) : MadeG B (W.setCell ⟨g3, j, none⟩ (.bool v)) n g1 g2 g3 xs ys (zs.set j v) := by
  have hd : Dif (fun k => k = g3) W (W.setCell ⟨g3, j, none⟩ (.bool v)) := (Dif.refl _ _).set g3 j _ rfl
  have hy := (h.r3.stored j (.bool v)).1
  rw [cellsB_set] at hy
  exact ⟨h.n12, h.n13, h.n23, hd.row h.r1 h.n13, hd.row h.r2 h.n23, hy⟩

set_option maxHeartbeats 1000000 in
theorem setBar_any (B h w n g1 g2 g3 i j : Nat) (xs ys zs : List Bool) (W : World) (hw : 1 ≤ w ∧ w ≤ 16) (hn : n ≤ 256) (hi : i < n) (hj : j < n) (hM : MadeG B W n g1 g2 g3 xs ys zs) :
    Calls Tryd.prog 43 #[gv3 h w n g1 g2 g3, .int .i64 i, .int .i64 j] W fun e W' => e = .returned (.tuple #[]) ∧ MadeG B W' n g1 g2 g3 xs (setR w i j ys) (setD w i j zs) ∧ Dif (fun b => b = g2 ∨ b = g3) W W' := by
  unfold gv3
  have hw0 : ¬ (w : Int) = 0 := by omega
  have hdi : (i : Int) / (w : Int) = ((i / w : Nat) : Int) := (Int.natCast_ediv _ _).symm
  have hdj : (j : Int) / (w : Int) = ((j / w : Nat) : Int) := (Int.natCast_ediv _ _).symm
  have hli : i / w ≤ 256 := Nat.le_trans (Nat.div_le_self _ _) (by omega)
  have hlj : j / w ≤ 256 := Nat.le_trans (Nat.div_le_self _ _) (by omega)
  have hmin : min (i : Int) (j : Int) = ((min i j : Nat) : Int) := by omega
  have hml : min i j < n := by omega
  unfold setR setD
  generalize i / w = p at *
  generalize j / w = q at *
  by_cases hpq : p = q
  · rw [if_pos hpq, if_pos hpq]
    subst hpq
    go_enter Tryd.func43, Tryd.ntmps43
    go_wp2
    go_big_region
    obtain ⟨W1, hW1⟩ : ∃ W1, W1 = (W.alloc (.cells #[.int .i64 h, .int .i64 w, .slice (some ⟨g1, 0, none⟩) n n, .slice (some ⟨g2, 0, none⟩) n n, .slice (some ⟨g3, 0, none⟩) n n] 27)).drew := ⟨_, rfl⟩
    have hb1 : Below W.heap.size W W1 := by rw [hW1]; exact Below.drew (below_box W _)
    have k1 : W1.cell? ⟨W.heap.size, 3, none⟩ = some (.slice (some ⟨g2, 0, none⟩) n n) := by rw [hW1]; exact cells_box _ _ _ _
    have hM1 := hM.dif hb1
    have ck : W1.cell? ⟨g2, min i j, none⟩ = some (.bool (bt ys (min i j))) := by
      rw [hM1.r2.cellAt (min i j) (by omega), cellsB_at (by have := hM1.len; omega)]
    have fk := hM1.r2.frozenAt (min i j)
    have HD : Aside (Dif (fun b => b = g2 ∨ b = g3) W W1) := Dif.of_below hb1
    have HM1 : Aside (MadeG B W1 n g1 g2 g3 xs ys zs) := hM1
    rw [← hW1]
    generalize bt ys (min i j) = v at *
    clear hW1 hM hM1 hb1
    go_wp2
    go_end0
    exact ⟨rfl, HM1.out.put2 true, HD.out.set g2 _ _ (.inl rfl)⟩
  · rw [if_neg hpq, if_neg hpq]
    have hpq2 : ¬ (p : Int) = (q : Int) := by omega
    go_enter Tryd.func43, Tryd.ntmps43
    go_wp2
    go_big_region
    obtain ⟨W1, hW1⟩ : ∃ W1, W1 = (W.alloc (.cells #[.int .i64 h, .int .i64 w, .slice (some ⟨g1, 0, none⟩) n n, .slice (some ⟨g2, 0, none⟩) n n, .slice (some ⟨g3, 0, none⟩) n n] 27)).drew := ⟨_, rfl⟩
    have hb1 : Below W.heap.size W W1 := by rw [hW1]; exact Below.drew (below_box W _)
    have k1 : W1.cell? ⟨W.heap.size, 4, none⟩ = some (.slice (some ⟨g3, 0, none⟩) n n) := by rw [hW1]; exact cells_box _ _ _ _
    have hM1 := hM.dif hb1
    have ck : W1.cell? ⟨g3, min i j, none⟩ = some (.bool (bt zs (min i j))) := by
      rw [hM1.r3.cellAt (min i j) (by omega), cellsB_at (by have := hM1.len; omega)]
    have fk := hM1.r3.frozenAt (min i j)
    have HD : Aside (Dif (fun b => b = g2 ∨ b = g3) W W1) := Dif.of_below hb1
    have HM1 : Aside (MadeG B W1 n g1 g2 g3 xs ys zs) := hM1
    rw [← hW1]
    generalize bt zs (min i j) = v at *
    clear hW1 hM hM1 hb1
    go_wp2
    go_end0
    exact ⟨rfl, HM1.out.put3 true, HD.out.set g3 _ _ (.inr rfl)⟩

set_option maxHeartbeats 1000000 in
theorem tblank_any (h w k : Nat) (h1 : 1 ≤ h ∧ h ≤ 16) (w1 : 1 ≤ w ∧ w ≤ 16) (hk : k < 8) (W : World) :
    Calls Tryd.prog 42 #[.agg #[.int .i64 h, .int .i64 w], .int .i64 k] W fun e W' => ∃ g1 g2 g3, e = .returned (gv3 (if k % 2 = 1 then w else h) (if k % 2 = 1 then h else w) (h * w) g1 g2 g3) ∧ MadeG W.heap.size W' (h * w) g1 g2 g3 (List.replicate (h * w) false) (List.replicate (h * w) false) (List.replicate (h * w) false) ∧ Below W.heap.size W W' := by
  unfold gv3
  by_cases e : k % 2 = 1
  · have hk2 : (k : Int) % 2 = 1 := by omega
    have cB := fun W => blank_ok w h W w1 h1
    rw [Nat.mul_comm w h] at cB
    rw [if_pos e, if_pos e]
    go_enter Tryd.func42, Tryd.ntmps42
    go_wp2_with fail
    refine (cB _).mono ?_
    rintro e w2 ⟨g1, g2, g3, rfl, hM, hb⟩
    have hb0 : Below W.heap.size W ((W.alloc (.cells #[.int .i64 w, .int .i64 h] 80)).alloc (.cells #[.int .i64 0, .int .i64 0, .slice none 0 0, .slice none 0 0, .slice none 0 0] 27)) := (below_box W _).alloc (below_box W _).size _
    have F0 : Five ((W.alloc (.cells #[.int .i64 w, .int .i64 h] 80)).alloc (.cells #[.int .i64 0, .int .i64 0, .slice none 0 0, .slice none 0 0, .slice none 0 0] 27)) (W.heap.size + 1) (.int .i64 0) (.int .i64 0) (.slice none 0 0) (.slice none 0 0) (.slice none 0 0) := ⟨heap_alloc2_new W _ _⟩
    have F2 := F0.keep hb
    have F3 := F2.keep (below_box w2 (.cells #[.int .i64 w, .int .i64 h, .slice (some ⟨g1, 0, none⟩) (h * w) (h * w), .slice (some ⟨g2, 0, none⟩) (h * w) (h * w), .slice (some ⟨g3, 0, none⟩) (h * w) (h * w)] 27))
    have hB2 : Below W.heap.size W w2 := hb0.trans (hb.mono hb0.size)
    have hB3 : Below W.heap.size W (w2.alloc (.cells #[.int .i64 w, .int .i64 h, .slice (some ⟨g1, 0, none⟩) (h * w) (h * w), .slice (some ⟨g2, 0, none⟩) (h * w) (h * w), .slice (some ⟨g3, 0, none⟩) (h * w) (h * w)] 27)) := hB2.trans ((below_box w2 _).mono hB2.size)
    have hsz : W.heap.size + 1 < ((W.alloc (.cells #[.int .i64 w, .int .i64 h] 80)).alloc (.cells #[.int .i64 0, .int .i64 0, .slice none 0 0, .slice none 0 0, .slice none 0 0] 27)).heap.size := F0.lt
    have hM3 := hM.dif (below_box w2 (.cells #[.int .i64 w, .int .i64 h, .slice (some ⟨g1, 0, none⟩) (h * w) (h * w), .slice (some ⟨g2, 0, none⟩) (h * w) (h * w), .slice (some ⟨g3, 0, none⟩) (h * w) (h * w)] 27))
    have HM3 : Aside (MadeG (W.heap.size + 1 + 1) (w2.alloc (.cells #[.int .i64 w, .int .i64 h, .slice (some ⟨g1, 0, none⟩) (h * w) (h * w), .slice (some ⟨g2, 0, none⟩) (h * w) (h * w), .slice (some ⟨g3, 0, none⟩) (h * w) (h * w)] 27)) (h * w) g1 g2 g3 (List.replicate (h * w) false) (List.replicate (h * w) false) (List.replicate (h * w) false)) := by
      have : ((W.alloc (.cells #[.int .i64 w, .int .i64 h] 80)).alloc (.cells #[.int .i64 0, .int .i64 0, .slice none 0 0, .slice none 0 0, .slice none 0 0] 27)).heap.size = W.heap.size + 1 + 1 := by rw [World.size_alloc, World.size_alloc]
      rw [this] at hM3
      exact hM3
    have HB3 : Aside (Below W.heap.size W (w2.alloc (.cells #[.int .i64 w, .int .i64 h, .slice (some ⟨g1, 0, none⟩) (h * w) (h * w), .slice (some ⟨g2, 0, none⟩) (h * w) (h * w), .slice (some ⟨g3, 0, none⟩) (h * w) (h * w)] 27))) := hB3
    have HF3 : Aside (Five (w2.alloc (.cells #[.int .i64 w, .int .i64 h, .slice (some ⟨g1, 0, none⟩) (h * w) (h * w), .slice (some ⟨g2, 0, none⟩) (h * w) (h * w), .slice (some ⟨g3, 0, none⟩) (h * w) (h * w)] 27)) (W.heap.size + 1) (.int .i64 0) (.int .i64 0) (.slice none 0 0) (.slice none 0 0) (.slice none 0 0)) := F3
    have z0 := F3.c0
    have z1 := F3.c1
    have z2 := F3.c2
    have z3 := F3.c3
    have z4 := F3.c4
    have y0 := F3.fr 0
    have y1 := F3.fr 1
    have y2 := F3.fr 2
    have y3 := F3.fr 3
    have y4 := F3.fr 4
    clear hM hb hb0 F0 F2 F3 hB2 hB3 hM3 hsz cB
    go_wp2
    have hF5 := ((((HF3.out.set0 (.int .i64 w)).set1 (.int .i64 h)).set2 (.slice (some ⟨g1, 0, none⟩) (h * w) (h * w))).set3 (.slice (some ⟨g2, 0, none⟩) (h * w) (h * w))).set4 (.slice (some ⟨g3, 0, none⟩) (h * w) (h * w))
    refine bodyPost_ret (results_g rfl _ _ (W.heap.size + 1) _ _ _ _ _ rfl hF5.c0 hF5.c1 hF5.c2 hF5.c3 hF5.c4) rfl ⟨g1, g2, g3, rfl, ?_, ?_⟩
    · exact (((((HM3.out.setLow (by omega)).setLow (by omega)).setLow (by omega)).setLow (by omega)).setLow (by omega)).base (by omega)
    · exact Below.setIn (Below.setIn (Below.setIn (Below.setIn (Below.setIn HB3.out (by omega) HB3.out.size) (by omega) (by simpa using HB3.out.size)) (by omega) (by simpa using HB3.out.size)) (by omega) (by simpa using HB3.out.size)) (by omega) (by simpa using HB3.out.size)
  · have hk2 : (k : Int) % 2 = 0 := by omega
    have cB := fun W => blank_ok h w W h1 w1
    rw [if_neg e, if_neg e]
    go_enter Tryd.func42, Tryd.ntmps42
    go_wp2_with fail
    refine (cB _).mono ?_
    rintro e w2 ⟨g1, g2, g3, rfl, hM, hb⟩
    have hb0 : Below W.heap.size W ((W.alloc (.cells #[.int .i64 h, .int .i64 w] 80)).alloc (.cells #[.int .i64 0, .int .i64 0, .slice none 0 0, .slice none 0 0, .slice none 0 0] 27)) := (below_box W _).alloc (below_box W _).size _
    have F0 : Five ((W.alloc (.cells #[.int .i64 h, .int .i64 w] 80)).alloc (.cells #[.int .i64 0, .int .i64 0, .slice none 0 0, .slice none 0 0, .slice none 0 0] 27)) (W.heap.size + 1) (.int .i64 0) (.int .i64 0) (.slice none 0 0) (.slice none 0 0) (.slice none 0 0) := ⟨heap_alloc2_new W _ _⟩
    have F2 := F0.keep hb
    have F3 := F2.keep (below_box w2 (.cells #[.int .i64 h, .int .i64 w, .slice (some ⟨g1, 0, none⟩) (h * w) (h * w), .slice (some ⟨g2, 0, none⟩) (h * w) (h * w), .slice (some ⟨g3, 0, none⟩) (h * w) (h * w)] 27))
    have hB2 : Below W.heap.size W w2 := hb0.trans (hb.mono hb0.size)
    have hB3 : Below W.heap.size W (w2.alloc (.cells #[.int .i64 h, .int .i64 w, .slice (some ⟨g1, 0, none⟩) (h * w) (h * w), .slice (some ⟨g2, 0, none⟩) (h * w) (h * w), .slice (some ⟨g3, 0, none⟩) (h * w) (h * w)] 27)) := hB2.trans ((below_box w2 _).mono hB2.size)
    have hsz : W.heap.size + 1 < ((W.alloc (.cells #[.int .i64 h, .int .i64 w] 80)).alloc (.cells #[.int .i64 0, .int .i64 0, .slice none 0 0, .slice none 0 0, .slice none 0 0] 27)).heap.size := F0.lt
    have hM3 := hM.dif (below_box w2 (.cells #[.int .i64 h, .int .i64 w, .slice (some ⟨g1, 0, none⟩) (h * w) (h * w), .slice (some ⟨g2, 0, none⟩) (h * w) (h * w), .slice (some ⟨g3, 0, none⟩) (h * w) (h * w)] 27))
    have HM3 : Aside (MadeG (W.heap.size + 1 + 1) (w2.alloc (.cells #[.int .i64 h, .int .i64 w, .slice (some ⟨g1, 0, none⟩) (h * w) (h * w), .slice (some ⟨g2, 0, none⟩) (h * w) (h * w), .slice (some ⟨g3, 0, none⟩) (h * w) (h * w)] 27)) (h * w) g1 g2 g3 (List.replicate (h * w) false) (List.replicate (h * w) false) (List.replicate (h * w) false)) := by
      have : ((W.alloc (.cells #[.int .i64 h, .int .i64 w] 80)).alloc (.cells #[.int .i64 0, .int .i64 0, .slice none 0 0, .slice none 0 0, .slice none 0 0] 27)).heap.size = W.heap.size + 1 + 1 := by rw [World.size_alloc, World.size_alloc]
      rw [this] at hM3
      exact hM3
    have HB3 : Aside (Below W.heap.size W (w2.alloc (.cells #[.int .i64 h, .int .i64 w, .slice (some ⟨g1, 0, none⟩) (h * w) (h * w), .slice (some ⟨g2, 0, none⟩) (h * w) (h * w), .slice (some ⟨g3, 0, none⟩) (h * w) (h * w)] 27))) := hB3
    have HF3 : Aside (Five (w2.alloc (.cells #[.int .i64 h, .int .i64 w, .slice (some ⟨g1, 0, none⟩) (h * w) (h * w), .slice (some ⟨g2, 0, none⟩) (h * w) (h * w), .slice (some ⟨g3, 0, none⟩) (h * w) (h * w)] 27)) (W.heap.size + 1) (.int .i64 0) (.int .i64 0) (.slice none 0 0) (.slice none 0 0) (.slice none 0 0)) := F3
    have z0 := F3.c0
    have z1 := F3.c1
    have z2 := F3.c2
    have z3 := F3.c3
    have z4 := F3.c4
    have y0 := F3.fr 0
    have y1 := F3.fr 1
    have y2 := F3.fr 2
    have y3 := F3.fr 3
    have y4 := F3.fr 4
    clear hM hb hb0 F0 F2 F3 hB2 hB3 hM3 hsz cB
    go_wp2
    have hF5 := ((((HF3.out.set0 (.int .i64 h)).set1 (.int .i64 w)).set2 (.slice (some ⟨g1, 0, none⟩) (h * w) (h * w))).set3 (.slice (some ⟨g2, 0, none⟩) (h * w) (h * w))).set4 (.slice (some ⟨g3, 0, none⟩) (h * w) (h * w))
    refine bodyPost_ret (results_g rfl _ _ (W.heap.size + 1) _ _ _ _ _ rfl hF5.c0 hF5.c1 hF5.c2 hF5.c3 hF5.c4) rfl ⟨g1, g2, g3, rfl, ?_, ?_⟩
    · exact (((((HM3.out.setLow (by omega)).setLow (by omega)).setLow (by omega)).setLow (by omega)).setLow (by omega)).base (by omega)
    · exact Below.setIn (Below.setIn (Below.setIn (Below.setIn (Below.setIn HB3.out (by omega) HB3.out.size) (by omega) (by simpa using HB3.out.size)) (by omega) (by simpa using HB3.out.size)) (by omega) (by simpa using HB3.out.size)) (by omega) (by simpa using HB3.out.size)
end Go.Proofs.YthjgldjjplcncabDoor.Grd
