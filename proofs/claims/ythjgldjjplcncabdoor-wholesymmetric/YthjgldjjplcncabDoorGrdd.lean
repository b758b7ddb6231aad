/-
  The program's Check, of any grid.
-/
import Derived.Test.YthjgldjjplcncabDoorGrdc
namespace Go.Proofs.YthjgldjjplcncabDoor.Grd
open Go Go.Lib Go.RowKit

/-- A grid whose sizes are right has its three lists somewhere. -/
structure RA (W : World) (g : Gr) (b1 o1 b2 o2 b3 o3 : Nat) : Prop where
  l1 : b1 < W.heap.size
  l2 : b2 < W.heap.size
  l3 : b3 < W.heap.size
  e1 : ∀ i, i < g.n → W.cell? ⟨b1, o1 + i, none⟩ = some (.bool (bt g.B i))
  e2 : ∀ i, i < g.n → W.cell? ⟨b2, o2 + i, none⟩ = some (.bool (bt g.R i))
  e3 : ∀ i, i < g.n → W.cell? ⟨b3, o3 + i, none⟩ = some (.bool (bt g.D i))
theorem RA.below {W W' : World} {g : Gr} {b1 o1 b2 o2 b3 o3 : Nat} (h : RA W g b1 o1 b2 o2 b3 o3) (hb : Below W.heap.size W W') : RA W' g b1 o1 b2 o2 b3 o3 :=
  ⟨Nat.lt_of_lt_of_le h.l1 hb.size, Nat.lt_of_lt_of_le h.l2 hb.size, Nat.lt_of_lt_of_le h.l3 hb.size, fun i hi => (hb.cell (p := ⟨b1, o1 + i, none⟩) h.l1).trans (h.e1 i hi), fun i hi => (hb.cell (p := ⟨b2, o2 + i, none⟩) h.l2).trans (h.e2 i hi), fun i hi => (hb.cell (p := ⟨b3, o3 + i, none⟩) h.l3).trans (h.e3 i hi)⟩
theorem ReadsB.at {W : World} {ao : Option Addr} {zs : List Bool} (h : ReadsB W ao zs) (hn : 1 ≤ zs.length) : ∃ b off, ao = some ⟨b, off, none⟩ ∧ b < W.heap.size ∧ ∀ i, i < zs.length → W.cell? ⟨b, off + i, none⟩ = some (.bool (bt zs i)) := by
  obtain ⟨b, off, e, hb, _⟩ := h 0 hn
  refine ⟨b, off, e, hb, fun i hi => ?_⟩
  obtain ⟨b', off', e', _, hc⟩ := h i hi
  rw [e] at e'
  injection e' with e'
  injection e' with h1 h2
  subst h1 h2
  exact hc
theorem RG.open {W : World} {g : Gr} {p : Ad} (hz : Sz g) (h : RG W g p) : ∃ b1 o1 c1 b2 o2 c2 b3 o3 c3, p = ⟨some ⟨b1, o1, none⟩, c1, some ⟨b2, o2, none⟩, c2, some ⟨b3, o3, none⟩, c3⟩ ∧ RA W g b1 o1 b2 o2 b3 o3 := by
  have hn := hz.n_le.1
  obtain ⟨b1, o1, e1, h1, f1⟩ := h.b.at (by rw [hz.bl]; exact hn)
  obtain ⟨b2, o2, e2, h2, f2⟩ := h.r.at (by rw [hz.rl]; exact hn)
  obtain ⟨b3, o3, e3, h3, f3⟩ := h.d.at (by rw [hz.dl]; exact hn)
  obtain ⟨a1, c1, a2, c2, a3, c3⟩ := p
  rw [hz.bl] at f1
  rw [hz.rl] at f2
  rw [hz.dl] at f3
  exact ⟨b1, o1, c1, b2, o2, c2, b3, o3, c3, by rw [Ad.mk.injEq]; exact ⟨e1, rfl, e2, rfl, e3, rfl⟩, h1, h2, h3, f1, f2, f3⟩

theorem Gr.chk_side {g : Gr} (h : ¬ g.sides) : g.chk = 50 := by unfold Gr.chk; rw [if_pos h]
theorem Gr.chk_size {g : Gr} (h : g.sides) (h2 : ¬ g.sizes) : g.chk = 51 := by unfold Gr.chk; rw [if_neg (by simpa using h), if_pos h2]
theorem Gr.chk_bar {g : Gr} (h : g.sides) (h2 : g.sizes) (h3 : g.barred) : g.chk = 52 := by unfold Gr.chk; rw [if_neg (by simpa using h), if_neg (by simpa using h2), if_pos ((Gr.barredB_iff g).2 h3)]
theorem Gr.chk_ok {g : Gr} (h : g.sides) (h2 : g.sizes) (h3 : ¬ g.barred) : g.chk = 0 := by
  unfold Gr.chk; rw [if_neg (by simpa using h), if_neg (by simpa using h2), if_neg (fun h => h3 ((Gr.barredB_iff g).1 h))]

set_option maxHeartbeats 1000000 in
theorem check_side (g : Gr) (p : Ad) (w : World) (h : ¬ g.sides) :
    Calls Tryd.prog 16 #[gv g p] w fun e w' => e = .returned (.int .i64 50) ∧ Below w.heap.size w w' := by
  have cS := fun W => isSide_any g.h W
  have cT := fun W => isSide_any g.w W
  unfold gv
  by_cases hh : sideOk g.h
  · have hv : ¬ sideOk g.w := fun hv => h ⟨hh, hv⟩
    simp only [decide_eq_true hh] at cS
    simp only [decide_eq_false hv] at cT
    go_enter Tryd.func16, Tryd.ntmps16
    go_wp2_with fail
    refine (cS _).mono ?_
    rintro e w1 ⟨rfl, hw⟩
    obtain rfl := hw.symm
    clear hw
    go_wp2_with fail
    refine (cT _).mono ?_
    rintro e w2 ⟨rfl, hw⟩
    obtain rfl := hw.symm
    clear hw cS cT
    go_wp2
    go_ret
    exact ⟨rfl, below_box w _⟩
  · simp only [decide_eq_false hh] at cS
    go_enter Tryd.func16, Tryd.ntmps16
    go_wp2_with fail
    refine (cS _).mono ?_
    rintro e w1 ⟨rfl, hw⟩
    obtain rfl := hw.symm
    clear hw cS cT
    go_wp2
    go_ret
    exact ⟨rfl, below_box w _⟩

set_option maxHeartbeats 1000000 in
theorem check_size (g : Gr) (p : Ad) (w : World) (h : g.sides) (h' : ¬ g.sizes) :
    Calls Tryd.prog 16 #[gv g p] w fun e w' => e = .returned (.int .i64 51) ∧ Below w.heap.size w w' := by
  have cS := fun W => isSide_any g.h W
  have cT := fun W => isSide_any g.w W
  simp only [decide_eq_true h.1] at cS
  simp only [decide_eq_true h.2] at cT
  obtain ⟨⟨h1, h2, h3⟩, h4, h5, h6⟩ := Gr.sides_nat h
  have hnl : g.n ≤ 256 := by unfold Gr.n; exact Nat.mul_le_mul h2 h5
  have hmul : g.h * g.w = (g.n : Int) := by rw [← h3, ← h6]; exact (Int.natCast_mul _ _).symm
  have hc : ¬ g.B.length = g.n ∨ (g.B.length = g.n ∧ ¬ g.R.length = g.n) ∨ (g.B.length = g.n ∧ g.R.length = g.n ∧ ¬ g.D.length = g.n) := by
    unfold Gr.sizes at h'
    omega
  have HS : Aside (g.sides) := h
  clear h h' h3 h6
  unfold gv
  go_enter Tryd.func16, Tryd.ntmps16
  go_wp2_with fail
  refine (cS _).mono ?_
  rintro e w1 ⟨rfl, hw⟩
  obtain rfl := hw.symm
  clear hw
  go_wp2_with fail
  refine (cT _).mono ?_
  rintro e w2 ⟨rfl, hw⟩
  obtain rfl := hw.symm
  clear hw cS cT
  rcases hc with hc | ⟨hc1, hc⟩ | ⟨hc1, hc2, hc⟩
  · have hz : ¬ (g.B.length : Int) = (g.n : Int) := by omega
    go_wp2
    go_ret
    exact ⟨rfl, below_box w _⟩
  · have hz1 : (g.B.length : Int) = (g.n : Int) := by omega
    have hz : ¬ (g.R.length : Int) = (g.n : Int) := by omega
    clear hc1
    go_wp2
    go_ret
    exact ⟨rfl, below_box w _⟩
  · have hz1 : (g.B.length : Int) = (g.n : Int) := by omega
    have hz2 : (g.R.length : Int) = (g.n : Int) := by omega
    have hz : ¬ (g.D.length : Int) = (g.n : Int) := by omega
    clear hc1 hc2
    go_wp2
    go_ret
    exact ⟨rfl, below_box w _⟩
end Go.Proofs.YthjgldjjplcncabDoor.Grd
