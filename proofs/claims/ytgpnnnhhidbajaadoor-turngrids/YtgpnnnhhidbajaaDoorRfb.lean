/-
  The document's Check, Open and Count of any grid.
-/
import Derived.Test.YtgpnnnhhidbajaaDoorRfa
namespace Go.Proofs.YtgpnnnhhidbajaaDoor.Grd
open Go Go.Lib Go.RowKit

set_option maxHeartbeats 1000000 in
theorem refCheck_side (g : Gr) (p : Ad) (w : World) (h : ¬ g.sides) :
    Calls Tryd.prog 22 #[gv g p] w fun e w' => e = .returned (.int .i64 50) ∧ Below w.heap.size w w' := by
  have cS := fun W => side_any g.h W
  have cT := fun W => side_any g.w W
  unfold gv
  by_cases hh : sideOk g.h
  · have hv : ¬ sideOk g.w := fun hv => h ⟨hh, hv⟩
    simp only [decide_eq_true hh] at cS
    simp only [decide_eq_false hv] at cT
    go_enter Tryd.func22, Tryd.ntmps22
    go_wp2_with fail
    refine (cS _).mono ?_
    rintro e w1 ⟨rfl, hw⟩
    obtain rfl := hw.symm
    clear hw
    go_wp2_with fail
    refine (cT _).mono ?_
    rintro e w2 ⟨rfl, hw⟩
    obtain rfl := hw.symm
    clear hw cS cT
    go_wp2
    go_ret
    exact ⟨rfl, below_box w _⟩
  · simp only [decide_eq_false hh] at cS
    go_enter Tryd.func22, Tryd.ntmps22
    go_wp2_with fail
    refine (cS _).mono ?_
    rintro e w1 ⟨rfl, hw⟩
    obtain rfl := hw.symm
    clear hw cS cT
    go_wp2
    go_ret
    exact ⟨rfl, below_box w _⟩

set_option maxHeartbeats 1000000 in
theorem refCheck_sides (g : Gr) (p : Ad) (w : World) (hR : RG w g p) (h : g.sides) :
    Calls Tryd.prog 22 #[gv g p] w fun e w' => e = .returned (.int .i64 (g.chk : Nat)) ∧ Below w.heap.size w w' := by
  have cS := fun W => side_any g.h W
  have cT := fun W => side_any g.w W
  simp only [decide_eq_true h.1] at cS
  simp only [decide_eq_true h.2] at cT
  obtain ⟨⟨h1, h2, h3⟩, h4, h5, h6⟩ := Gr.sides_nat h
  have hnl : g.n ≤ 256 := by unfold Gr.n; exact Nat.mul_le_mul h2 h5
  have hmul : g.h * g.w = (g.n : Int) := by rw [← h3, ← h6]; exact (Int.natCast_mul _ _).symm
  by_cases h' : g.sizes
  · have HC : Aside (g.chk = if g.barredB then 52 else 0) := by
      show g.chk = _
      unfold Gr.chk
      rw [if_neg (by simpa using h), if_neg (by simpa using h')]
    have cB := barred_any g p (Sz.of h h') (w.alloc (.cells #[.int .i64 g.h, .int .i64 g.w, .slice p.a1 g.B.length p.c1, .slice p.a2 g.R.length p.c2, .slice p.a3 g.D.length p.c3] 24)) (hR.below (below_box w _))
    have hz1 : (g.B.length : Int) = (g.n : Int) := by rw [h'.1]
    have hz2 : (g.R.length : Int) = (g.n : Int) := by rw [h'.2.1]
    have hz3 : (g.D.length : Int) = (g.n : Int) := by rw [h'.2.2]
    unfold gv at cB
    unfold gv
    generalize g.barredB = x at *
    clear h h' h3 h6 hR
    go_enter Tryd.func22, Tryd.ntmps22
    go_wp2_with fail
    refine (cS _).mono ?_
    rintro e w1 ⟨rfl, hw⟩
    obtain rfl := hw.symm
    clear hw
    go_wp2_with fail
    refine (cT _).mono ?_
    rintro e w2 ⟨rfl, hw⟩
    obtain rfl := hw.symm
    clear hw cS cT
    go_wp2_with fail
    refine cB.mono ?_
    rintro e w3 ⟨rfl, hb3⟩
    have HB3 : Aside (Below w.heap.size w w3) := (below_box w _).trans (hb3.mono (below_box w _).size)
    clear cB hb3
    cases x with
    | true =>
      go_wp2
      go_ret
      exact ⟨by rw [HC.out]; rfl, HB3.out⟩
    | false =>
      go_wp2
      go_ret
      exact ⟨by rw [HC.out]; rfl, HB3.out⟩
  · have hc : ¬ g.B.length = g.n ∨ (g.B.length = g.n ∧ ¬ g.R.length = g.n) ∨ (g.B.length = g.n ∧ g.R.length = g.n ∧ ¬ g.D.length = g.n) := by
      unfold Gr.sizes at h'
      omega
    rw [Gr.chk_size h h']
    unfold gv
    clear h h' h3 h6 hR
    go_enter Tryd.func22, Tryd.ntmps22
    go_wp2_with fail
    refine (cS _).mono ?_
    rintro e w1 ⟨rfl, hw⟩
    obtain rfl := hw.symm
    clear hw
    go_wp2_with fail
    refine (cT _).mono ?_
    rintro e w2 ⟨rfl, hw⟩
    obtain rfl := hw.symm
    clear hw cS cT
    rcases hc with hc | ⟨hc1, hc⟩ | ⟨hc1, hc2, hc⟩
    · have hz : ¬ (g.B.length : Int) = (g.n : Int) := by omega
      go_wp2
      go_ret
      exact ⟨rfl, below_box w _⟩
    · have hz1 : (g.B.length : Int) = (g.n : Int) := by omega
      have hz : ¬ (g.R.length : Int) = (g.n : Int) := by omega
      clear hc1
      go_wp2
      go_ret
      exact ⟨rfl, below_box w _⟩
    · have hz1 : (g.B.length : Int) = (g.n : Int) := by omega
      have hz2 : (g.R.length : Int) = (g.n : Int) := by omega
      have hz : ¬ (g.D.length : Int) = (g.n : Int) := by omega
      clear hc1 hc2
      go_wp2
      go_ret
      exact ⟨rfl, below_box w _⟩

theorem refCheck_any (g : Gr) (p : Ad) (w : World) (hR : RG w g p) :
    Calls Tryd.prog 22 #[gv g p] w fun e w' => e = .returned (.int .i64 (g.chk : Nat)) ∧ Below w.heap.size w w' := by
  by_cases h : g.sides
  · exact refCheck_sides g p w hR h
  · rw [Gr.chk_side h]; exact refCheck_side g p w h

end Go.Proofs.YtgpnnnhhidbajaaDoor.Grd
