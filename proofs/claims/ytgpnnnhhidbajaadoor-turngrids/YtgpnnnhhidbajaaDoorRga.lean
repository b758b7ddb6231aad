/-
  Layer 6: the document's bar and Turn.
-/
import Derived.Test.YtgpnnnhhidbajaaDoorTrnr
import Derived.Test.YtgpnnnhhidbajaaDoorTrnf
import Derived.Test.YtgpnnnhhidbajaaDoorRfb
import Derived.Deep.RegionWith
import Derived.Deep.CutRange
namespace Go.Proofs.YtgpnnnhhidbajaaDoor.Grd
open Go Go.Lib Go.RowKit

theorem setR_comm (w a b : Nat) (l : List Bool) : setR w b a l = setR w a b l := by
  unfold setR
  by_cases h : a / w = b / w
  · rw [if_pos h, if_pos h.symm, Nat.min_comm]
  · rw [if_neg h, if_neg (fun e => h e.symm)]
theorem setD_comm (w a b : Nat) (l : List Bool) : setD w b a l = setD w a b l := by
  unfold setD
  by_cases h : a / w = b / w
  · rw [if_pos h, if_pos h.symm]
  · rw [if_neg h, if_neg (fun e => h e.symm), Nat.min_comm]

theorem dif_new {O : Nat → Prop} {a W : World} (h : Dif O a W) {b : Nat} (hb : a.heap.size ≤ b) (y0 y1 y2 y3 y4 : Value) : Dif O a (st5 W b y0 y1 y2 y3 y4) := by
  have hd := Dif.st5 (Dif.refl (fun j => j = b) W) (b := b) rfl y0 y1 y2 y3 y4
  exact ⟨hd.os.trans h.os, hd.tape.trans h.tape, hd.output.trans h.output, Nat.le_trans h.size hd.size, fun k hk ho => (hd.block k (Nat.lt_of_lt_of_le hk h.size) (by omega)).trans (h.block k hk ho)⟩
set_option maxHeartbeats 2000000 in
/-- The lesser cell first. -/
theorem refbar_core (B h w n g1 g2 g3 i j lo hi : Nat) (xs ys zs : List Bool) (W : World) (hw : 1 ≤ w ∧ w ≤ 16) (hn : n ≤ 256) (hi' : hi < n) (hlo : lo ≤ hi) (hs : (j < i ∧ lo = j ∧ hi = i) ∨ (¬ j < i ∧ lo = i ∧ hi = j)) (hM : MadeG B W n g1 g2 g3 xs ys zs) :
    Calls Tryd.prog 25 #[gv3 h w n g1 g2 g3, .int .i64 i, .int .i64 j] W fun e W' => e = .returned (gv3 h w n g1 g2 g3) ∧ MadeG B W' n g1 g2 g3 xs (setR w lo hi ys) (setD w lo hi zs) ∧ Dif (fun b => b = g2 ∨ b = g3) W W' := by
  unfold gv3
  have hw0 : ¬ (w : Int) = 0 := by omega
  have hdi : (lo : Int) / (w : Int) = ((lo / w : Nat) : Int) := (Int.natCast_ediv _ _).symm
  have hdj : (hi : Int) / (w : Int) = ((hi / w : Nat) : Int) := (Int.natCast_ediv _ _).symm
  have hli : lo / w ≤ 256 := Nat.le_trans (Nat.div_le_self _ _) (by omega)
  have hlj : hi / w ≤ 256 := Nat.le_trans (Nat.div_le_self _ _) (by omega)
  have hmn : min lo hi = lo := Nat.min_eq_left hlo
  have hln : lo < n := by omega
  unfold setR setD
  rw [hmn]
  generalize lo / w = p at *
  generalize hi / w = q at *
  clear hmn
  rcases hs with ⟨hji, rfl, rfl⟩ | ⟨hji, rfl, rfl⟩
  · have hjz : (lo : Int) < (hi : Int) := by omega
    by_cases hpq : p = q
    · rw [if_pos hpq, if_pos hpq]
      subst hpq
      go_enter Tryd.func25, Tryd.ntmps25
      go_wp2
      go_big_region
      obtain ⟨W1, hW1⟩ : ∃ W1, W1 = ((W.alloc (.cells #[.int .i64 h, .int .i64 w, .slice (some ⟨g1, 0, none⟩) n n, .slice (some ⟨g2, 0, none⟩) n n, .slice (some ⟨g3, 0, none⟩) n n] 24)).alloc (.cells #[.int .i64 0, .int .i64 0, .slice none 0 0, .slice none 0 0, .slice none 0 0] 24)).drew := ⟨_, rfl⟩
      have hb1 : Below W.heap.size W W1 := by rw [hW1]; exact Below.drew ((below_box W _).alloc (below_box W _).size _)
      have F0 : Five W1 W.heap.size (.int .i64 h) (.int .i64 w) (.slice (some ⟨g1, 0, none⟩) n n) (.slice (some ⟨g2, 0, none⟩) n n) (.slice (some ⟨g3, 0, none⟩) n n) := ⟨by rw [hW1]; exact heap_alloc2_old W _ _⟩
      have F1 : Five W1 (W.heap.size + 1) (.int .i64 0) (.int .i64 0) (.slice none 0 0) (.slice none 0 0) (.slice none 0 0) := ⟨by rw [hW1]; exact heap_alloc2_new W _ _⟩
      rw [← hW1]
      have hM1 := hM.dif hb1
      obtain ⟨l1, l2, l3⟩ := hM.lo
      have ck : W1.cell? ⟨g2, lo, none⟩ = some (.bool (bt ys lo)) := by
        rw [hM1.r2.cellAt lo (by omega), cellsB_at (by have := hM1.len; omega)]
      have fk := hM1.r2.frozenAt lo
      have hd : Dif (fun b => b = g2 ∨ b = g3) W1 (W1.setCell ⟨g2, lo, none⟩ (.bool true)) := (Dif.refl _ _).set g2 lo _ (.inl rfl)
      have G0 := F0.dif hd (by omega)
      have G1 := F1.dif hd (by omega)
      have HE : Aside (MadeG B (W1.setCell ⟨g2, lo, none⟩ (.bool true)) n g1 g2 g3 xs (ys.set lo true) zs ∧ Dif (fun b => b = g2 ∨ b = g3) W (W1.setCell ⟨g2, lo, none⟩ (.bool true)) ∧ Five (W1.setCell ⟨g2, lo, none⟩ (.bool true)) (W.heap.size + 1) (.int .i64 0) (.int .i64 0) (.slice none 0 0) (.slice none 0 0) (.slice none 0 0)) := ⟨hM1.put2 true, (Dif.of_below hb1).trans hd, G1⟩
      have k0 := F0.c3
      have j0 := G0.c0
      have j1 := G0.c1
      have j2 := G0.c2
      have j3 := G0.c3
      have j4 := G0.c4
      have z0 := G1.c0
      have z1 := G1.c1
      have z2 := G1.c2
      have z3 := G1.c3
      have z4 := G1.c4
      have y0 := G1.fr 0
      have y1 := G1.fr 1
      have y2 := G1.fr 2
      have y3 := G1.fr 3
      have y4 := G1.fr 4
      generalize bt ys lo = v at *
      clear hW1 hM hM1 hb1 F0 F1 G0 G1 hd
      go_wp2
      have hF5 := HE.out.2.2.all (.int .i64 h) (.int .i64 w) (.slice (some ⟨g1, 0, none⟩) n n) (.slice (some ⟨g2, 0, none⟩) n n) (.slice (some ⟨g3, 0, none⟩) n n)
      refine bodyPost_ret (results_g rfl _ _ (W.heap.size + 1) _ _ _ _ _ rfl hF5.c0 hF5.c1 hF5.c2 hF5.c3 hF5.c4) rfl ⟨rfl, HE.out.1.st5 (by omega) _ _ _ _ _, dif_new HE.out.2.1 (Nat.le_succ _) _ _ _ _ _⟩
    · rw [if_neg hpq, if_neg hpq]
      have hpq2 : ¬ (p : Int) = (q : Int) := by omega
      go_enter Tryd.func25, Tryd.ntmps25
      go_wp2
      go_big_region
      obtain ⟨W1, hW1⟩ : ∃ W1, W1 = ((W.alloc (.cells #[.int .i64 h, .int .i64 w, .slice (some ⟨g1, 0, none⟩) n n, .slice (some ⟨g2, 0, none⟩) n n, .slice (some ⟨g3, 0, none⟩) n n] 24)).alloc (.cells #[.int .i64 0, .int .i64 0, .slice none 0 0, .slice none 0 0, .slice none 0 0] 24)).drew := ⟨_, rfl⟩
      have hb1 : Below W.heap.size W W1 := by rw [hW1]; exact Below.drew ((below_box W _).alloc (below_box W _).size _)
      have F0 : Five W1 W.heap.size (.int .i64 h) (.int .i64 w) (.slice (some ⟨g1, 0, none⟩) n n) (.slice (some ⟨g2, 0, none⟩) n n) (.slice (some ⟨g3, 0, none⟩) n n) := ⟨by rw [hW1]; exact heap_alloc2_old W _ _⟩
      have F1 : Five W1 (W.heap.size + 1) (.int .i64 0) (.int .i64 0) (.slice none 0 0) (.slice none 0 0) (.slice none 0 0) := ⟨by rw [hW1]; exact heap_alloc2_new W _ _⟩
      rw [← hW1]
      have hM1 := hM.dif hb1
      obtain ⟨l1, l2, l3⟩ := hM.lo
      have ck : W1.cell? ⟨g3, lo, none⟩ = some (.bool (bt zs lo)) := by
        rw [hM1.r3.cellAt lo (by omega), cellsB_at (by have := hM1.len; omega)]
      have fk := hM1.r3.frozenAt lo
      have hd : Dif (fun b => b = g2 ∨ b = g3) W1 (W1.setCell ⟨g3, lo, none⟩ (.bool true)) := (Dif.refl _ _).set g3 lo _ (.inr rfl)
      have G0 := F0.dif hd (by omega)
      have G1 := F1.dif hd (by omega)
      have HE : Aside (MadeG B (W1.setCell ⟨g3, lo, none⟩ (.bool true)) n g1 g2 g3 xs ys (zs.set lo true) ∧ Dif (fun b => b = g2 ∨ b = g3) W (W1.setCell ⟨g3, lo, none⟩ (.bool true)) ∧ Five (W1.setCell ⟨g3, lo, none⟩ (.bool true)) (W.heap.size + 1) (.int .i64 0) (.int .i64 0) (.slice none 0 0) (.slice none 0 0) (.slice none 0 0)) := ⟨hM1.put3 true, (Dif.of_below hb1).trans hd, G1⟩
      have k0 := F0.c4
      have j0 := G0.c0
      have j1 := G0.c1
      have j2 := G0.c2
      have j3 := G0.c3
      have j4 := G0.c4
      have z0 := G1.c0
      have z1 := G1.c1
      have z2 := G1.c2
      have z3 := G1.c3
      have z4 := G1.c4
      have y0 := G1.fr 0
      have y1 := G1.fr 1
      have y2 := G1.fr 2
      have y3 := G1.fr 3
      have y4 := G1.fr 4
      generalize bt zs lo = v at *
      clear hW1 hM hM1 hb1 F0 F1 G0 G1 hd
      go_wp2
      have hF5 := HE.out.2.2.all (.int .i64 h) (.int .i64 w) (.slice (some ⟨g1, 0, none⟩) n n) (.slice (some ⟨g2, 0, none⟩) n n) (.slice (some ⟨g3, 0, none⟩) n n)
      refine bodyPost_ret (results_g rfl _ _ (W.heap.size + 1) _ _ _ _ _ rfl hF5.c0 hF5.c1 hF5.c2 hF5.c3 hF5.c4) rfl ⟨rfl, HE.out.1.st5 (by omega) _ _ _ _ _, dif_new HE.out.2.1 (Nat.le_succ _) _ _ _ _ _⟩
  · have hjz : ¬ (hi : Int) < (lo : Int) := by omega
    by_cases hpq : p = q
    · rw [if_pos hpq, if_pos hpq]
      subst hpq
      go_enter Tryd.func25, Tryd.ntmps25
      go_wp2
      go_big_region
      obtain ⟨W1, hW1⟩ : ∃ W1, W1 = ((W.alloc (.cells #[.int .i64 h, .int .i64 w, .slice (some ⟨g1, 0, none⟩) n n, .slice (some ⟨g2, 0, none⟩) n n, .slice (some ⟨g3, 0, none⟩) n n] 24)).alloc (.cells #[.int .i64 0, .int .i64 0, .slice none 0 0, .slice none 0 0, .slice none 0 0] 24)).drew := ⟨_, rfl⟩
      have hb1 : Below W.heap.size W W1 := by rw [hW1]; exact Below.drew ((below_box W _).alloc (below_box W _).size _)
      have F0 : Five W1 W.heap.size (.int .i64 h) (.int .i64 w) (.slice (some ⟨g1, 0, none⟩) n n) (.slice (some ⟨g2, 0, none⟩) n n) (.slice (some ⟨g3, 0, none⟩) n n) := ⟨by rw [hW1]; exact heap_alloc2_old W _ _⟩
      have F1 : Five W1 (W.heap.size + 1) (.int .i64 0) (.int .i64 0) (.slice none 0 0) (.slice none 0 0) (.slice none 0 0) := ⟨by rw [hW1]; exact heap_alloc2_new W _ _⟩
      rw [← hW1]
      have hM1 := hM.dif hb1
      obtain ⟨l1, l2, l3⟩ := hM.lo
      have ck : W1.cell? ⟨g2, lo, none⟩ = some (.bool (bt ys lo)) := by
        rw [hM1.r2.cellAt lo (by omega), cellsB_at (by have := hM1.len; omega)]
      have fk := hM1.r2.frozenAt lo
      have hd : Dif (fun b => b = g2 ∨ b = g3) W1 (W1.setCell ⟨g2, lo, none⟩ (.bool true)) := (Dif.refl _ _).set g2 lo _ (.inl rfl)
      have G0 := F0.dif hd (by omega)
      have G1 := F1.dif hd (by omega)
      have HE : Aside (MadeG B (W1.setCell ⟨g2, lo, none⟩ (.bool true)) n g1 g2 g3 xs (ys.set lo true) zs ∧ Dif (fun b => b = g2 ∨ b = g3) W (W1.setCell ⟨g2, lo, none⟩ (.bool true)) ∧ Five (W1.setCell ⟨g2, lo, none⟩ (.bool true)) (W.heap.size + 1) (.int .i64 0) (.int .i64 0) (.slice none 0 0) (.slice none 0 0) (.slice none 0 0)) := ⟨hM1.put2 true, (Dif.of_below hb1).trans hd, G1⟩
      have k0 := F0.c3
      have j0 := G0.c0
      have j1 := G0.c1
      have j2 := G0.c2
      have j3 := G0.c3
      have j4 := G0.c4
      have z0 := G1.c0
      have z1 := G1.c1
      have z2 := G1.c2
      have z3 := G1.c3
      have z4 := G1.c4
      have y0 := G1.fr 0
      have y1 := G1.fr 1
      have y2 := G1.fr 2
      have y3 := G1.fr 3
      have y4 := G1.fr 4
      generalize bt ys lo = v at *
      clear hW1 hM hM1 hb1 F0 F1 G0 G1 hd
      go_wp2
      have hF5 := HE.out.2.2.all (.int .i64 h) (.int .i64 w) (.slice (some ⟨g1, 0, none⟩) n n) (.slice (some ⟨g2, 0, none⟩) n n) (.slice (some ⟨g3, 0, none⟩) n n)
      refine bodyPost_ret (results_g rfl _ _ (W.heap.size + 1) _ _ _ _ _ rfl hF5.c0 hF5.c1 hF5.c2 hF5.c3 hF5.c4) rfl ⟨rfl, HE.out.1.st5 (by omega) _ _ _ _ _, dif_new HE.out.2.1 (Nat.le_succ _) _ _ _ _ _⟩
    · rw [if_neg hpq, if_neg hpq]
      have hpq2 : ¬ (p : Int) = (q : Int) := by omega
      go_enter Tryd.func25, Tryd.ntmps25
      go_wp2
      go_big_region
      obtain ⟨W1, hW1⟩ : ∃ W1, W1 = ((W.alloc (.cells #[.int .i64 h, .int .i64 w, .slice (some ⟨g1, 0, none⟩) n n, .slice (some ⟨g2, 0, none⟩) n n, .slice (some ⟨g3, 0, none⟩) n n] 24)).alloc (.cells #[.int .i64 0, .int .i64 0, .slice none 0 0, .slice none 0 0, .slice none 0 0] 24)).drew := ⟨_, rfl⟩
      have hb1 : Below W.heap.size W W1 := by rw [hW1]; exact Below.drew ((below_box W _).alloc (below_box W _).size _)
      have F0 : Five W1 W.heap.size (.int .i64 h) (.int .i64 w) (.slice (some ⟨g1, 0, none⟩) n n) (.slice (some ⟨g2, 0, none⟩) n n) (.slice (some ⟨g3, 0, none⟩) n n) := ⟨by rw [hW1]; exact heap_alloc2_old W _ _⟩
      have F1 : Five W1 (W.heap.size + 1) (.int .i64 0) (.int .i64 0) (.slice none 0 0) (.slice none 0 0) (.slice none 0 0) := ⟨by rw [hW1]; exact heap_alloc2_new W _ _⟩
      rw [← hW1]
      have hM1 := hM.dif hb1
      obtain ⟨l1, l2, l3⟩ := hM.lo
      have ck : W1.cell? ⟨g3, lo, none⟩ = some (.bool (bt zs lo)) := by
        rw [hM1.r3.cellAt lo (by omega), cellsB_at (by have := hM1.len; omega)]
      have fk := hM1.r3.frozenAt lo
      have hd : Dif (fun b => b = g2 ∨ b = g3) W1 (W1.setCell ⟨g3, lo, none⟩ (.bool true)) := (Dif.refl _ _).set g3 lo _ (.inr rfl)
      have G0 := F0.dif hd (by omega)
      have G1 := F1.dif hd (by omega)
      have HE : Aside (MadeG B (W1.setCell ⟨g3, lo, none⟩ (.bool true)) n g1 g2 g3 xs ys (zs.set lo true) ∧ Dif (fun b => b = g2 ∨ b = g3) W (W1.setCell ⟨g3, lo, none⟩ (.bool true)) ∧ Five (W1.setCell ⟨g3, lo, none⟩ (.bool true)) (W.heap.size + 1) (.int .i64 0) (.int .i64 0) (.slice none 0 0) (.slice none 0 0) (.slice none 0 0)) := ⟨hM1.put3 true, (Dif.of_below hb1).trans hd, G1⟩
      have k0 := F0.c4
      have j0 := G0.c0
      have j1 := G0.c1
      have j2 := G0.c2
      have j3 := G0.c3
      have j4 := G0.c4
      have z0 := G1.c0
      have z1 := G1.c1
      have z2 := G1.c2
      have z3 := G1.c3
      have z4 := G1.c4
      have y0 := G1.fr 0
      have y1 := G1.fr 1
      have y2 := G1.fr 2
      have y3 := G1.fr 3
      have y4 := G1.fr 4
      generalize bt zs lo = v at *
      clear hW1 hM hM1 hb1 F0 F1 G0 G1 hd
      go_wp2
      have hF5 := HE.out.2.2.all (.int .i64 h) (.int .i64 w) (.slice (some ⟨g1, 0, none⟩) n n) (.slice (some ⟨g2, 0, none⟩) n n) (.slice (some ⟨g3, 0, none⟩) n n)
      refine bodyPost_ret (results_g rfl _ _ (W.heap.size + 1) _ _ _ _ _ rfl hF5.c0 hF5.c1 hF5.c2 hF5.c3 hF5.c4) rfl ⟨rfl, HE.out.1.st5 (by omega) _ _ _ _ _, dif_new HE.out.2.1 (Nat.le_succ _) _ _ _ _ _⟩
theorem refbar_any (B h w n g1 g2 g3 i j : Nat) (xs ys zs : List Bool) (W : World) (hw : 1 ≤ w ∧ w ≤ 16) (hn : n ≤ 256) (hi : i < n) (hj : j < n) (hM : MadeG B W n g1 g2 g3 xs ys zs) :
    Calls Tryd.prog 25 #[gv3 h w n g1 g2 g3, .int .i64 i, .int .i64 j] W fun e W' => e = .returned (gv3 h w n g1 g2 g3) ∧ MadeG B W' n g1 g2 g3 xs (setR w i j ys) (setD w i j zs) ∧ Dif (fun b => b = g2 ∨ b = g3) W W' := by
  by_cases hji : j < i
  · have := refbar_core B h w n g1 g2 g3 i j j i xs ys zs W hw hn hi (by omega) (.inl ⟨hji, rfl, rfl⟩) hM
    rw [setR_comm, setD_comm] at this
    exact this
  · exact refbar_core B h w n g1 g2 g3 i j i j xs ys zs W hw hn hj (by omega) (.inr ⟨hji, rfl, rfl⟩) hM
end Go.Proofs.YtgpnnnhhidbajaaDoor.Grd
