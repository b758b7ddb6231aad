/-
  The document's Check, Open and Count of any grid.
-/
import Derived.Test.YtkkeoonglcfhnaaDoorRfa
namespace Go.Proofs.YtkkeoonglcfhnaaDoor.Grd
open Go Go.Lib Go.RowKit

set_option maxHeartbeats 1000000 in
theorem refCheck_side (g : Gr) (p : Ad) (w : World) (h : ¬ g.sides) :
    Calls Tryd.prog 32 #[gv g p] w fun e w' => e = .returned (.int .i64 50) ∧ Below w.heap.size w w' := by
  have cS := fun W => side_any g.h W
  have cT := fun W => side_any g.w W
  unfold gv
  by_cases hh : sideOk g.h
  · have hv : ¬ sideOk g.w := fun hv => h ⟨hh, hv⟩
    simp only [decide_eq_true hh] at cS
    simp only [decide_eq_false hv] at cT
    go_enter Tryd.func32, Tryd.ntmps32
    go_wp2_with fail
    refine (cS _).mono ?_
    rintro e w1 ⟨rfl, hw⟩
    obtain rfl := hw.symm
    clear hw
    go_wp2_with fail
    refine (cT _).mono ?_
    rintro e w2 ⟨rfl, hw⟩
    obtain rfl := hw.symm
    clear hw cS cT
    go_wp2
    go_ret
    exact ⟨rfl, below_box w _⟩
  · simp only [decide_eq_false hh] at cS
    go_enter Tryd.func32, Tryd.ntmps32
    go_wp2_with fail
    refine (cS _).mono ?_
    rintro e w1 ⟨rfl, hw⟩
    obtain rfl := hw.symm
    clear hw cS cT
    go_wp2
    go_ret
    exact ⟨rfl, below_box w _⟩

set_option maxHeartbeats 1000000 in
theorem refCheck_sides (g : Gr) (p : Ad) (w : World) (hR : RG w g p) (h : g.sides) :
    Calls Tryd.prog 32 #[gv g p] w fun e w' => e = .returned (.int .i64 (g.chk : Nat)) ∧ Below w.heap.size w w' := by
  have cS := fun W => side_any g.h W
  have cT := fun W => side_any g.w W
  simp only [decide_eq_true h.1] at cS
  simp only [decide_eq_true h.2] at cT
  obtain ⟨⟨h1, h2, h3⟩, h4, h5, h6⟩ := Gr.sides_nat h
  have hnl : g.n ≤ 256 := by unfold Gr.n; exact Nat.mul_le_mul h2 h5
  have hmul : g.h * g.w = (g.n : Int) := by rw [← h3, ← h6]; exact (Int.natCast_mul _ _).symm
  by_cases h' : g.sizes
  · have HC : Aside (g.chk = if g.barredB then 52 else 0) := by
      show g.chk = _
      unfold Gr.chk
      rw [if_neg (by simpa using h), if_neg (by simpa using h')]
    have cB := barred_any g p (Sz.of h h') (w.alloc (.cells #[.int .i64 g.h, .int .i64 g.w, .slice p.a1 g.B.length p.c1, .slice p.a2 g.R.length p.c2, .slice p.a3 g.D.length p.c3] 24)) (hR.below (below_box w _))
    have hz1 : (g.B.length : Int) = (g.n : Int) := by rw [h'.1]
    have hz2 : (g.R.length : Int) = (g.n : Int) := by rw [h'.2.1]
    have hz3 : (g.D.length : Int) = (g.n : Int) := by rw [h'.2.2]
    unfold gv at cB
    unfold gv
    generalize g.barredB = x at *
    clear h h' h3 h6 hR
    go_enter Tryd.func32, Tryd.ntmps32
    go_wp2_with fail
    refine (cS _).mono ?_
    rintro e w1 ⟨rfl, hw⟩
    obtain rfl := hw.symm
    clear hw
    go_wp2_with fail
    refine (cT _).mono ?_
    rintro e w2 ⟨rfl, hw⟩
    obtain rfl := hw.symm
    clear hw cS cT
    go_wp2_with fail
    refine cB.mono ?_
    rintro e w3 ⟨rfl, hb3⟩
    have HB3 : Aside (Below w.heap.size w w3) := (below_box w _).trans (hb3.mono (below_box w _).size)
    clear cB hb3
    cases x with
    | true =>
      go_wp2
      go_ret
      exact ⟨by rw [HC.out]; rfl, HB3.out⟩
    | false =>
      go_wp2
      go_ret
      exact ⟨by rw [HC.out]; rfl, HB3.out⟩
  · have hc : ¬ g.B.length = g.n ∨ (g.B.length = g.n ∧ ¬ g.R.length = g.n) ∨ (g.B.length = g.n ∧ g.R.length = g.n ∧ ¬ g.D.length = g.n) := by
      unfold Gr.sizes at h'
      omega
    rw [Gr.chk_size h h']
    unfold gv
    clear h h' h3 h6 hR
    go_enter Tryd.func32, Tryd.ntmps32
    go_wp2_with fail
    refine (cS _).mono ?_
    rintro e w1 ⟨rfl, hw⟩
    obtain rfl := hw.symm
    clear hw
    go_wp2_with fail
    refine (cT _).mono ?_
    rintro e w2 ⟨rfl, hw⟩
    obtain rfl := hw.symm
    clear hw cS cT
    rcases hc with hc | ⟨hc1, hc⟩ | ⟨hc1, hc2, hc⟩
    · have hz : ¬ (g.B.length : Int) = (g.n : Int) := by omega
      go_wp2
      go_ret
      exact ⟨rfl, below_box w _⟩
    · have hz1 : (g.B.length : Int) = (g.n : Int) := by omega
      have hz : ¬ (g.R.length : Int) = (g.n : Int) := by omega
      clear hc1
      go_wp2
      go_ret
      exact ⟨rfl, below_box w _⟩
    · have hz1 : (g.B.length : Int) = (g.n : Int) := by omega
      have hz2 : (g.R.length : Int) = (g.n : Int) := by omega
      have hz : ¬ (g.D.length : Int) = (g.n : Int) := by omega
      clear hc1 hc2
      go_wp2
      go_ret
      exact ⟨rfl, below_box w _⟩

theorem refCheck_any (g : Gr) (p : Ad) (w : World) (hR : RG w g p) :
    Calls Tryd.prog 32 #[gv g p] w fun e w' => e = .returned (.int .i64 (g.chk : Nat)) ∧ Below w.heap.size w w' := by
  by_cases h : g.sides
  · exact refCheck_sides g p w hR h
  · rw [Gr.chk_side h]; exact refCheck_side g p w h

set_option maxHeartbeats 1000000 in
theorem refOpen_any (g : Gr) (p : Ad) (i : Int) (w : World) (hR : RG w g p) :
    Calls Tryd.prog 65 #[gv g p, .int .i64 i] w fun e w' => e = .returned (.bool (g.opI i)) ∧ Below w.heap.size w w' := by
  have hcl := g.chk_le
  by_cases hc : g.chk = 0
  · have hz := (Gr.right_of hc).sz
    have hnl := hz.n_le
    have hmul : g.h * g.w = (g.n : Int) := by rw [← hz.sh.2.2, ← hz.sw.2.2]; exact (Int.natCast_mul _ _).symm
    have hBl : (g.B.length : Int) = (g.n : Int) := by rw [hz.bl]
    obtain ⟨b1, o1, c1, b2, o2, c2, b3, o3, c3, rfl, hA⟩ := hR.open hz
    have cC := refCheck_any g ⟨some ⟨b1, o1, none⟩, c1, some ⟨b2, o2, none⟩, c2, some ⟨b3, o3, none⟩, c3⟩ (w.alloc (.cells #[.int .i64 g.h, .int .i64 g.w, .slice (some ⟨b1, o1, none⟩) g.B.length c1, .slice (some ⟨b2, o2, none⟩) g.R.length c2, .slice (some ⟨b3, o3, none⟩) g.D.length c3] 24)) (hR.below (below_box w _))
    have HX := Bx.new w g ⟨some ⟨b1, o1, none⟩, c1, some ⟨b2, o2, none⟩, c2, some ⟨b3, o3, none⟩, c3⟩ 24
    have HO : Aside (g.opI i = (decide (0 ≤ i ∧ i < (g.n : Int)) && !bt g.B i.toNat)) := by
      show g.opI i = _
      unfold Gr.opI
      rw [decide_eq_true (show g.ok from hc), Bool.true_and, hz.bl]
    have HRA : Aside (∀ W, Below w.heap.size w W → RA W g b1 o1 b2 o2 b3 o3) := fun W h => hA.below h
    rw [hc] at cC
    unfold gv at cC
    unfold gv
    dsimp only at cC ⊢
    clear hcl hc hz hR hA
    go_enter Tryd.func65, Tryd.ntmps65
    go_wp2_with fail
    refine cC.mono ?_
    rintro e w1 ⟨rfl, hb1⟩
    obtain ⟨_, k0, k1, k2, k3, k4⟩ := HX.keep hb1
    dsimp only at k2 k3 k4
    have HB1 : Aside (Below w.heap.size w w1) := (below_box w _).trans (hb1.mono (below_box w _).size)
    clear hb1 cC
    by_cases h0 : 0 ≤ i
    · obtain ⟨k, rfl⟩ := Int.eq_ofNat_of_zero_le h0
      by_cases h1 : k < g.n
      · have h1z : (k : Int) < (g.n : Int) := by omega
        have eB := (HRA.out w1 HB1.out).e1 k h1
        have HO2 : Aside (g.opI (k : Int) = !bt g.B k) := by
          show g.opI (k : Int) = _
          rw [HO.out, decide_eq_true ⟨h0, h1z⟩, Bool.true_and, Int.toNat_natCast]
        generalize bt g.B k = x at *
        clear HO
        cases x with
        | true =>
          go_wp2
          go_ret
          exact ⟨by rw [HO2.out]; rfl, HB1.out⟩
        | false =>
          go_wp2
          go_ret
          exact ⟨by rw [HO2.out]; rfl, HB1.out⟩
      · have h1z : ¬ (k : Int) < (g.n : Int) := by omega
        have HO2 : Aside (g.opI (k : Int) = false) := by
          show g.opI (k : Int) = false
          rw [HO.out, decide_eq_false (fun h => h1z h.2), Bool.false_and]
        clear HO
        go_wp2
        go_ret
        exact ⟨by rw [HO2.out]; rfl, HB1.out⟩
    · have HO2 : Aside (g.opI i = false) := by
        show g.opI i = false
        rw [HO.out, decide_eq_false (fun h => h0 h.1), Bool.false_and]
      clear HO
      go_wp2
      go_ret
      exact ⟨by rw [HO2.out]; rfl, HB1.out⟩
  · have HO2 : Aside (g.opI i = false) := by
      show g.opI i = false
      unfold Gr.opI
      rw [decide_eq_false (show ¬ g.ok from hc), Bool.false_and]
    have cC := refCheck_any g p (w.alloc (.cells #[.int .i64 g.h, .int .i64 g.w, .slice p.a1 g.B.length p.c1, .slice p.a2 g.R.length p.c2, .slice p.a3 g.D.length p.c3] 24)) (hR.below (below_box w _))
    have hc2 : ¬ ((g.chk : Nat) : Int) = 0 := by omega
    unfold gv at cC
    unfold gv
    clear hR
    go_enter Tryd.func65, Tryd.ntmps65
    go_wp2_with fail
    refine cC.mono ?_
    rintro e w1 ⟨rfl, hb1⟩
    have HB1 : Aside (Below w.heap.size w w1) := (below_box w _).trans (hb1.mono (below_box w _).size)
    clear hb1 cC
    go_wp2
    go_ret
    exact ⟨by rw [HO2.out]; rfl, HB1.out⟩
end Go.Proofs.YtkkeoonglcfhnaaDoor.Grd
