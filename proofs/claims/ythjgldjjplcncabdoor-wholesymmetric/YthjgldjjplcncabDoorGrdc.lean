/-
  The program's hasBeside, isBarred, step.
-/
import Derived.Test.YthjgldjjplcncabDoorGrdb
namespace Go.Proofs.YthjgldjjplcncabDoor.Grd
open Go Go.Lib Go.RowKit

set_option maxHeartbeats 400000 in
theorem hasBeside_any (g : Gr) (p : Ad) (hz : Sz g) (i way : Nat) (hi : i < g.n) (hway : way < 4) (w : World) (hw : Wy w) (hR : ReadsB w p.a1 g.B) :
    Calls Tryd.prog 35 #[gv g p, .int .i64 i, .int .i64 way] w fun e w' => e = .returned (.bool (g.bes i way).isSome) ∧ Below w.heap.size w w' := by
  have cB := fun W h => beside_any g p hz i way hi hway W (hw.below hw.size h) (hR.below h)
  unfold gv opt at cB
  unfold gv
  go_enter Tryd.func35, Tryd.ntmps35
  go_wp2_with (go_at_call 50; refine (cB _ (below_box w _)).mono ?_; rintro e w' ⟨rfl, hb⟩)
  go_ret
  exact ⟨rfl, (below_box w _).trans (hb.mono (below_box w _).size)⟩

set_option maxHeartbeats 1000000 in
theorem isBarred_any (g : Gr) (p : Ad) (hz : Sz g) (i j way : Nat) (hi : i < g.n) (hj : j < g.n) (hway : way < 4) (w : World) (hR2 : ReadsB w p.a2 g.R) (hR3 : ReadsB w p.a3 g.D) :
    Calls Tryd.prog 56 #[gv g p, .int .i64 i, .int .i64 j, .int .i64 way] w fun e w' => e = .returned (.bool (g.bar i j way)) ∧ Below w.heap.size w w' := by
  have hn := hz.n_le
  have hk : min i j < g.n := by omega
  have hmin : min (i : Int) (j : Int) = ((min i j : Nat) : Int) := by omega
  unfold Gr.bar gv
  rw [hz.rl, hz.dl]
  by_cases hp : way % 2 = 0
  · obtain ⟨b, off, e, hb, hc⟩ := hR2 (min i j) (by rw [hz.rl]; exact hk)
    rw [if_pos hp, e]
    have hp2 : (way : Int) % 2 = 0 := by omega
    generalize bt g.R (min i j) = x at *
    generalize min i j = k at *
    go_enter Tryd.func56, Tryd.ntmps56
    go_wp2
    go_ret
    exact ⟨rfl, below_box w _⟩
  · obtain ⟨b, off, e, hb, hc⟩ := hR3 (min i j) (by rw [hz.dl]; exact hk)
    rw [if_neg hp, e]
    have hp2 : (way : Int) % 2 = 1 := by omega
    generalize bt g.D (min i j) = x at *
    generalize min i j = k at *
    go_enter Tryd.func56, Tryd.ntmps56
    go_wp2
    go_ret
    exact ⟨rfl, below_box w _⟩

set_option maxHeartbeats 1000000 in
theorem step_any (g : Gr) (p : Ad) (hz : Sz g) (i way : Nat) (hi : i < g.n) (hway : way < 4) (w : World) (hw : Wy w) (hR : RG w g p) :
    Calls Tryd.prog 44 #[gv g p, .int .i64 i, .int .i64 way] w fun e w' => e = .returned (opt (g.stp i way)) ∧ Below w.heap.size w w' := by
  have HB : Aside (∀ W, Below w.heap.size w W → Calls Tryd.prog 50 #[gv g p, .int .i64 i, .int .i64 way] W fun e w' => e = .returned (opt (g.bes i way)) ∧ Below W.heap.size W w') := fun W h => beside_any g p hz i way hi hway W (hw.below hw.size h) (hR.b.below h)
  have HX : Aside (∀ W j, Below w.heap.size w W → j < g.n → Calls Tryd.prog 56 #[gv g p, .int .i64 i, .int .i64 j, .int .i64 way] W fun e w' => e = .returned (.bool (g.bar i j way)) ∧ Below W.heap.size W w') := fun W j h hj => isBarred_any g p hz i j way hi hj hway W (hR.r.below h) (hR.d.below h)
  cases hb : g.bes i way with
  | none =>
    have e : g.stp i way = none := by unfold Gr.stp; rw [hb]
    have cB := HB.out _ (below_box w (.cells #[.int .i64 g.h, .int .i64 g.w, .slice p.a1 g.B.length p.c1, .slice p.a2 g.R.length p.c2, .slice p.a3 g.D.length p.c3] 27))
    rw [e]
    rw [hb] at cB
    unfold gv opt at cB
    unfold gv
    go_enter Tryd.func44, Tryd.ntmps44
    go_wp2_with (go_at_call 50; refine cB.mono ?_; rintro e w' ⟨rfl, hb1⟩)
    go_ret2
    exact ⟨rfl, (below_box w _).trans (hb1.mono (below_box w _).size)⟩
  | some j =>
    have hj : j < g.n := Gr.nb_lt hz.sw.1 hi (Gr.bes_nb hb).1
    have hn := hz.n_le
    have e : g.stp i way = if g.bar i j way then none else some j := by unfold Gr.stp; rw [hb]
    have cB := HB.out _ (below_box w (.cells #[.int .i64 g.h, .int .i64 g.w, .slice p.a1 g.B.length p.c1, .slice p.a2 g.R.length p.c2, .slice p.a3 g.D.length p.c3] 27))
    rw [hb] at cB
    rw [e]
    have HX2 : Aside (∀ W, Below w.heap.size w W → Calls Tryd.prog 56 #[gv g p, .int .i64 i, .int .i64 j, .int .i64 way] W fun e w' => e = .returned (.bool (g.bar i j way)) ∧ Below W.heap.size W w') := fun W h => HX.out W j h hj
    clear HX HB
    unfold gv opt at cB
    unfold gv at HX2
    unfold gv
    cases hx : g.bar i j way with
    | true =>
      rw [hx] at HX2
      go_enter Tryd.func44, Tryd.ntmps44
      go_wp2_with fail
      refine cB.mono ?_
      rintro e w1 ⟨rfl, hb1⟩
      obtain ⟨_, k0, k1, k2, k3, k4⟩ := (Bx.new w g p _).keep hb1
      have HB1 : Aside (Below w.heap.size w w1) := (below_box w _).trans (hb1.mono (below_box w _).size)
      have cX := HX2.out w1 HB1.out
      clear HX2 hb1 cB
      go_wp2_with fail
      refine cX.mono ?_
      rintro e w2 ⟨rfl, hb2⟩
      go_wp2
      go_ret2
      exact ⟨rfl, HB1.out.trans (hb2.mono HB1.out.size)⟩
    | false =>
      rw [hx] at HX2
      go_enter Tryd.func44, Tryd.ntmps44
      go_wp2_with fail
      refine cB.mono ?_
      rintro e w1 ⟨rfl, hb1⟩
      obtain ⟨_, k0, k1, k2, k3, k4⟩ := (Bx.new w g p _).keep hb1
      have HB1 : Aside (Below w.heap.size w w1) := (below_box w _).trans (hb1.mono (below_box w _).size)
      have cX := HX2.out w1 HB1.out
      clear HX2 hb1 cB
      go_wp2_with fail
      refine cX.mono ?_
      rintro e w2 ⟨rfl, hb2⟩
      go_wp2
      go_ret2
      exact ⟨rfl, HB1.out.trans (hb2.mono HB1.out.size)⟩

end Go.Proofs.YthjgldjjplcncabDoor.Grd
