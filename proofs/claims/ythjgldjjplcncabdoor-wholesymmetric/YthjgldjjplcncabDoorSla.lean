/-
  The program's onward and isReached, of a right grid.
-/
import Derived.Test.YthjgldjjplcncabDoorGrdf
import Derived.Test.YthjgldjjplcncabDoorSlm
namespace Go.Proofs.YthjgldjjplcncabDoor.Grd
open Go Go.Lib Go.RowKit

set_option maxHeartbeats 1000000 in
theorem onward_edge (H W q m b1 o1 c1 b2 o2 c2 b3 o3 c3 L i : Nat) (r d dn : Bool) (w : World)
    (hH : H ≤ 16) (hW : W ≤ 16) (hH0 : 1 ≤ H) (hL : L ≤ 256) (hi : i < L) (hW0 : ¬ W = 0) (hq : (i : Int) / (W : Int) = q) (hm : (i : Int) % (W : Int) = m)
    (hE : if dn then q + 1 = H else m + 1 = W)
    (e2 : w.cell? ⟨b2, o2 + i, none⟩ = some (.bool r)) (e3 : w.cell? ⟨b3, o3 + i, none⟩ = some (.bool d)) (l2 : b2 < w.heap.size) (l3 : b3 < w.heap.size) :
    Calls Tryd.prog 25 #[.agg #[.int .i64 H, .int .i64 W, .slice (some ⟨b1, o1, none⟩) L c1, .slice (some ⟨b2, o2, none⟩) L c2, .slice (some ⟨b3, o3, none⟩) L c3], .int .i64 i, .bool dn] w fun e w' => e = .returned (.tuple #[.int .i64 0, .bool false]) ∧ Below w.heap.size w w' := by
  cases dn with
  | false =>
    simp only [Bool.false_eq_true, if_false] at hE
    have hE2 : (m : Int) = (W : Int) - 1 := by omega
    go_enter Tryd.func25, Tryd.ntmps25
    go_wp2
    go_quiet (fail)
    go_wp2
    all_goals (go_ret2; refine ⟨by first | (exfalso; omega) | rfl, below_drewN ((Below.refl _ _).alloc (Nat.le_refl _) _) _⟩)
  | true =>
    simp only [if_true] at hE
    have hE2 : (q : Int) = (H : Int) - 1 := by omega
    go_enter Tryd.func25, Tryd.ntmps25
    go_wp2
    go_quiet (fail)
    go_wp2
    go_quiet (fail)
    go_wp2
    all_goals (go_ret2; refine ⟨by first | (exfalso; omega) | rfl, below_drewN ((Below.refl _ _).alloc (Nat.le_refl _) _) _⟩)

set_option maxHeartbeats 1000000 in
theorem onward_inA (H W m b1 o1 c1 b2 o2 c2 L i j : Nat) (x y r : Bool) (v3 : Value) (w : World)
    (hW : W ≤ 16) (hL : L ≤ 256) (hi : i < L) (hj : j < L) (hW0 : ¬ W = 0) (hm : (i : Int) % (W : Int) = m)
    (he : ((m : Int) == (W : Int) - 1) = false) (hE4 : (i : Int) + 1 = (j : Int))
    (e1 : w.cell? ⟨b1, o1 + i, none⟩ = some (.bool x)) (e4 : w.cell? ⟨b1, o1 + j, none⟩ = some (.bool y)) (l1 : b1 < w.heap.size)
    (e2 : w.cell? ⟨b2, o2 + i, none⟩ = some (.bool r)) (l2 : b2 < w.heap.size)  :
    Calls Tryd.prog 25 #[.agg #[.int .i64 H, .int .i64 W, .slice (some ⟨b1, o1, none⟩) L c1, .slice (some ⟨b2, o2, none⟩) L c2, v3], .int .i64 i, .bool false] w fun e w' => e = .returned (.tuple #[.int .i64 (if r || x || y then 0 else (j : Int)), .bool (!(r || x || y))]) ∧ Below w.heap.size w w' := by
    go_enter Tryd.func25, Tryd.ntmps25
    go_wp2
    go_quiet (fail)
    cases r with
    | true =>
      go_wp2
      go_ret2
      exact ⟨rfl, below_drewN ((Below.refl _ _).alloc (Nat.le_refl _) _) _⟩
    | false =>
      cases x with
      | true =>
        go_wp2
        go_ret2
        exact ⟨rfl, below_drewN ((Below.refl _ _).alloc (Nat.le_refl _) _) _⟩
      | false =>
        cases y with
        | true =>
          go_wp2
          go_ret2
          exact ⟨rfl, below_drewN ((Below.refl _ _).alloc (Nat.le_refl _) _) _⟩
        | false =>
          go_wp2
          go_ret2
          exact ⟨rfl, below_drewN ((Below.refl _ _).alloc (Nat.le_refl _) _) _⟩

set_option maxHeartbeats 1000000 in
theorem onward_inD (H W q m b1 o1 c1 b2 o2 c2 b3 o3 c3 L i j : Nat) (x y r d em : Bool) (w : World)
    (hW : W ≤ 16) (hL : L ≤ 256) (hi : i < L) (hj : j < L) (hW0 : ¬ W = 0) (hq : (i : Int) / (W : Int) = q) (hm : (i : Int) % (W : Int) = m) (hH : H ≤ 16) (hqH : q < H)
    (he : ((q : Int) == (H : Int) - 1) = false) (hem : ((m : Int) == (W : Int) - 1) = em) (hE4 : (i : Int) + (W : Int) = (j : Int))
    (e1 : w.cell? ⟨b1, o1 + i, none⟩ = some (.bool x)) (e4 : w.cell? ⟨b1, o1 + j, none⟩ = some (.bool y)) (l1 : b1 < w.heap.size)
    (e2 : w.cell? ⟨b2, o2 + i, none⟩ = some (.bool r)) (l2 : b2 < w.heap.size) (e3 : w.cell? ⟨b3, o3 + i, none⟩ = some (.bool d)) (l3 : b3 < w.heap.size) :
    Calls Tryd.prog 25 #[.agg #[.int .i64 H, .int .i64 W, .slice (some ⟨b1, o1, none⟩) L c1, .slice (some ⟨b2, o2, none⟩) L c2, .slice (some ⟨b3, o3, none⟩) L c3], .int .i64 i, .bool true] w fun e w' => e = .returned (.tuple #[.int .i64 (if d || x || y then 0 else (j : Int)), .bool (!(d || x || y))]) ∧ Below w.heap.size w w' := by
    go_enter Tryd.func25, Tryd.ntmps25
    go_wp2
    go_quiet (fail)
    go_wp2
    go_quiet (fail)
    cases d with
    | true =>
      go_wp2
      go_ret2
      exact ⟨rfl, below_drewN ((Below.refl _ _).alloc (Nat.le_refl _) _) _⟩
    | false =>
      cases x with
      | true =>
        go_wp2
        go_ret2
        exact ⟨rfl, below_drewN ((Below.refl _ _).alloc (Nat.le_refl _) _) _⟩
      | false =>
        cases y with
        | true =>
          go_wp2
          go_ret2
          exact ⟨rfl, below_drewN ((Below.refl _ _).alloc (Nat.le_refl _) _) _⟩
        | false =>
          go_wp2
          go_ret2
          exact ⟨rfl, below_drewN ((Below.refl _ _).alloc (Nat.le_refl _) _) _⟩

theorem Gr.st_shut {g : Gr} {i d : Nat} (h : bt g.B i = true) : g.st i d = none := by
  unfold Gr.st
  rw [if_neg (fun h2 => by rw [(Gr.opn_iff.1 h2).2] at h; cases h)]
theorem onward_any (g : Gr) (p : Ad) (hz : Sz g) (i : Nat) (hi : i < g.n) (dn : Bool) (w : World) (hR : RG w g p) :
    Calls Tryd.prog 25 #[gv g p, .int .i64 i, .bool dn] w fun e w' => e = .returned (opt (g.st i (way dn))) ∧ Below w.heap.size w w' := by
  obtain ⟨h1, h2, h3⟩ := hz.sh
  obtain ⟨h4, h5, h6⟩ := hz.sw
  have hn := hz.n_le
  obtain ⟨b1, o1, c1, b2, o2, c2, b3, o3, c3, rfl, hA⟩ := hR.open hz
  unfold gv
  dsimp only
  rw [← h3, ← h6, hz.bl, hz.rl, hz.dl]
  have hq := row_lt hi
  have hm := Nat.mod_lt i h4
  by_cases hed : if dn then i / g.W + 1 = g.H else i % g.W + 1 = g.W
  · have e : g.st i (way dn) = none := by
      by_cases ho : g.opn i = true
      · cases dn with
        | false =>
          simp only [Bool.false_eq_true, if_false] at hed
          show g.st i 0 = none
          rw [Gr.st0 ho, if_neg (fun h => by have := h.1; omega)]
        | true =>
          simp only [if_true] at hed
          show g.st i 1 = none
          rw [Gr.st1 ho, if_neg (fun h => by have := h.1; generalize i / g.W = q at *; omega)]
      · unfold Gr.st; rw [if_neg ho]
    rw [e]
    exact onward_edge g.H g.W (i / g.W) (i % g.W) b1 o1 c1 b2 o2 c2 b3 o3 c3 g.n i (bt g.R i) (bt g.D i) dn w h2 h5 h1 hn.2 hi (by omega) (int_div _ _) (int_mod _ _) hed (hA.e2 i hi) (hA.e3 i hi) hA.l2 hA.l3
  · obtain ⟨j, hj, hE⟩ : ∃ j, j < g.n ∧ (if dn then i / g.W + 1 < g.H ∧ i + g.W = j else i % g.W + 1 < g.W ∧ i + 1 = j) := by
      cases dn with
      | false =>
        simp only [Bool.false_eq_true, if_false] at hed ⊢
        exact ⟨i + 1, right_lt hi (by omega), by omega, rfl⟩
      | true =>
        simp only [if_true] at hed ⊢
        exact ⟨i + g.W, down_lt (by generalize i / g.W = q at *; omega) h4, by generalize i / g.W = q at *; omega, rfl⟩
    have hc : Calls Tryd.prog 25 #[.agg #[.int .i64 g.H, .int .i64 g.W, .slice (some ⟨b1, o1, none⟩) g.n c1, .slice (some ⟨b2, o2, none⟩) g.n c2, .slice (some ⟨b3, o3, none⟩) g.n c3], .int .i64 i, .bool dn] w fun e w' => e = .returned (.tuple #[.int .i64 (if (if dn then bt g.D i else bt g.R i) || bt g.B i || bt g.B j then 0 else (j : Int)), .bool (!((if dn then bt g.D i else bt g.R i) || bt g.B i || bt g.B j))]) ∧ Below w.heap.size w w' := by
      cases dn with
      | false =>
        simp only [Bool.false_eq_true, if_false] at hE ⊢
        exact onward_inA g.H g.W (i % g.W) b1 o1 c1 b2 o2 c2 g.n i j (bt g.B i) (bt g.B j) (bt g.R i) _ w h5 hn.2 hi hj (by omega) (int_mod _ _) (by rw [beq_eq_false_iff_ne]; omega) (by omega) (hA.e1 i hi) (hA.e1 j hj) hA.l1 (hA.e2 i hi) hA.l2
      | true =>
        simp only [if_true] at hE ⊢
        exact onward_inD g.H g.W (i / g.W) (i % g.W) b1 o1 c1 b2 o2 c2 b3 o3 c3 g.n i j (bt g.B i) (bt g.B j) (bt g.R i) (bt g.D i) _ w h5 hn.2 hi hj (by omega) (int_div _ _) (int_mod _ _) h2 hq (by rw [beq_eq_false_iff_ne]; generalize i / g.W = q at *; omega) rfl (by omega) (hA.e1 i hi) (hA.e1 j hj) hA.l1 (hA.e2 i hi) hA.l2 (hA.e3 i hi) hA.l3
    refine hc.mono ?_
    rintro e w' ⟨rfl, hb⟩
    refine ⟨?_, hb⟩
    by_cases ho : bt g.B i = true
    · rw [Gr.st_shut ho, ho]
      simp [opt]
    · have ho' : bt g.B i = false := by simpa using ho
      have hop : g.opn i = true := Gr.opn_iff.2 ⟨hi, ho'⟩
      rw [ho']
      cases dn with
      | false =>
        simp only [Bool.false_eq_true, if_false] at hE ⊢
        obtain ⟨hE1, rfl⟩ := hE
        show _ = Ending.returned (opt (g.st i 0))
        rw [Gr.st0 hop]
        have hE2 : i % g.W < g.W - 1 := by omega
        cases bt g.R i <;> cases bt g.B (i + 1) <;> simp [opt, hE2]
      | true =>
        simp only [if_true] at hE ⊢
        obtain ⟨hE1, rfl⟩ := hE
        show _ = Ending.returned (opt (g.st i 1))
        rw [Gr.st1 hop]
        have hE2 : i / g.W < g.H - 1 := by generalize i / g.W = q at *; omega
        cases bt g.D i <;> cases bt g.B (i + g.W) <;> simp [opt, hE2]
end Go.Proofs.YthjgldjjplcncabDoor.Grd
