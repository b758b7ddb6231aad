/-
  The program's Check, of any grid.
-/
import Derived.Test.YthjgldjjplcncabDoorGgd
namespace Go.Proofs.YthjgldjjplcncabDoor.Grd
open Go Go.Lib Go.RowKit

/-- A grid whose sizes are right has its three lists somewhere. -/
structure RA (W : World) (g : Gr) (b1 o1 b2 o2 b3 o3 : Nat) : Prop where
  l1 : b1 < W.heap.size
  l2 : b2 < W.heap.size
  l3 : b3 < W.heap.size
  e1 : ∀ i, i < g.n → W.cell? ⟨b1, o1 + i, none⟩ = some (.bool (bt g.B i))
  e2 : ∀ i, i < g.n → W.cell? ⟨b2, o2 + i, none⟩ = some (.bool (bt g.R i))
  e3 : ∀ i, i < g.n → W.cell? ⟨b3, o3 + i, none⟩ = some (.bool (bt g.D i))
theorem RA.below {W W' : World} {g : Gr} {b1 o1 b2 o2 b3 o3 : Nat} (h : RA W g b1 o1 b2 o2 b3 o3) (hb : Below W.heap.size W W') : RA W' g b1 o1 b2 o2 b3 o3 :=
  ⟨Nat.lt_of_lt_of_le h.l1 hb.size, Nat.lt_of_lt_of_le h.l2 hb.size, Nat.lt_of_lt_of_le h.l3 hb.size, fun i hi => (hb.cell (p := ⟨b1, o1 + i, none⟩) h.l1).trans (h.e1 i hi), fun i hi => (hb.cell (p := ⟨b2, o2 + i, none⟩) h.l2).trans (h.e2 i hi), fun i hi => (hb.cell (p := ⟨b3, o3 + i, none⟩) h.l3).trans (h.e3 i hi)⟩
theorem ReadsB.at {W : World} {ao : Option Addr} {zs : List Bool} (h : ReadsB W ao zs) (hn : 1 ≤ zs.length) : ∃ b off, ao = some ⟨b, off, none⟩ ∧ b < W.heap.size ∧ ∀ i, i < zs.length → W.cell? ⟨b, off + i, none⟩ = some (.bool (bt zs i)) := by
  obtain ⟨b, off, e, hb, _⟩ := h 0 hn
  refine ⟨b, off, e, hb, fun i hi => ?_⟩
  obtain ⟨b', off', e', _, hc⟩ := h i hi
  rw [e] at e'
  injection e' with e'
  injection e' with h1 h2
  subst h1 h2
  exact hc
theorem RG.open {W : World} {g : Gr} {p : Ad} (hz : Sz g) (h : RG W g p) : ∃ b1 o1 c1 b2 o2 c2 b3 o3 c3, p = ⟨some ⟨b1, o1, none⟩, c1, some ⟨b2, o2, none⟩, c2, some ⟨b3, o3, none⟩, c3⟩ ∧ RA W g b1 o1 b2 o2 b3 o3 := by
  have hn := hz.n_le.1
  obtain ⟨b1, o1, e1, h1, f1⟩ := h.b.at (by rw [hz.bl]; exact hn)
  obtain ⟨b2, o2, e2, h2, f2⟩ := h.r.at (by rw [hz.rl]; exact hn)
  obtain ⟨b3, o3, e3, h3, f3⟩ := h.d.at (by rw [hz.dl]; exact hn)
  obtain ⟨a1, c1, a2, c2, a3, c3⟩ := p
  rw [hz.bl] at f1
  rw [hz.rl] at f2
  rw [hz.dl] at f3
  exact ⟨b1, o1, c1, b2, o2, c2, b3, o3, c3, by rw [Ad.mk.injEq]; exact ⟨e1, rfl, e2, rfl, e3, rfl⟩, h1, h2, h3, f1, f2, f3⟩

theorem Gr.chk_side {g : Gr} (h : ¬ g.sides) : g.chk = 50 := by unfold Gr.chk; rw [if_pos h]
theorem Gr.chk_size {g : Gr} (h : g.sides) (h2 : ¬ g.sizes) : g.chk = 51 := by unfold Gr.chk; rw [if_neg (by simpa using h), if_pos h2]
theorem Gr.chk_bar {g : Gr} (h : g.sides) (h2 : g.sizes) (h3 : g.barred) : g.chk = 52 := by unfold Gr.chk; rw [if_neg (by simpa using h), if_neg (by simpa using h2), if_pos ((Gr.barredB_iff g).2 h3)]
theorem Gr.chk_ok {g : Gr} (h : g.sides) (h2 : g.sizes) (h3 : ¬ g.barred) : g.chk = 0 := by
  unfold Gr.chk; rw [if_neg (by simpa using h), if_neg (by simpa using h2), if_neg (fun h => h3 ((Gr.barredB_iff g).1 h))]

set_option maxHeartbeats 1000000 in
theorem check_side (g : Gr) (p : Ad) (w : World) (h : ¬ g.sides) :
    Calls Tryd.prog 16 #[gv g p] w fun e w' => e = .returned (.int .i64 50) ∧ Below w.heap.size w w' := by
  have cS := fun W => isSide_any g.h W
  have cT := fun W => isSide_any g.w W
  unfold gv
  by_cases hh : sideOk g.h
  · have hv : ¬ sideOk g.w := fun hv => h ⟨hh, hv⟩
    simp only [decide_eq_true hh] at cS
    simp only [decide_eq_false hv] at cT
    go_enter Tryd.func16, Tryd.ntmps16
    go_wp2_with fail
    refine (cS _).mono ?_
    rintro e w1 ⟨rfl, hw⟩
    obtain rfl := hw.symm
    clear hw
    go_wp2_with fail
    refine (cT _).mono ?_
    rintro e w2 ⟨rfl, hw⟩
    obtain rfl := hw.symm
    clear hw cS cT
    go_wp2
    go_ret
    exact ⟨rfl, below_box w _⟩
  · simp only [decide_eq_false hh] at cS
    go_enter Tryd.func16, Tryd.ntmps16
    go_wp2_with fail
    refine (cS _).mono ?_
    rintro e w1 ⟨rfl, hw⟩
    obtain rfl := hw.symm
    clear hw cS cT
    go_wp2
    go_ret
    exact ⟨rfl, below_box w _⟩

set_option maxHeartbeats 1000000 in
theorem check_size (g : Gr) (p : Ad) (w : World) (h : g.sides) (h' : ¬ g.sizes) :
    Calls Tryd.prog 16 #[gv g p] w fun e w' => e = .returned (.int .i64 51) ∧ Below w.heap.size w w' := by
  have cS := fun W => isSide_any g.h W
  have cT := fun W => isSide_any g.w W
  simp only [decide_eq_true h.1] at cS
  simp only [decide_eq_true h.2] at cT
  obtain ⟨⟨h1, h2, h3⟩, h4, h5, h6⟩ := Gr.sides_nat h
  have hnl : g.n ≤ 256 := by unfold Gr.n; exact Nat.mul_le_mul h2 h5
  have hmul : g.h * g.w = (g.n : Int) := by rw [← h3, ← h6]; exact (Int.natCast_mul _ _).symm
  have hc : ¬ g.B.length = g.n ∨ (g.B.length = g.n ∧ ¬ g.R.length = g.n) ∨ (g.B.length = g.n ∧ g.R.length = g.n ∧ ¬ g.D.length = g.n) := by
    unfold Gr.sizes at h'
    omega
  have HS : Aside (g.sides) := h
  clear h h' h3 h6
  unfold gv
  go_enter Tryd.func16, Tryd.ntmps16
  go_wp2_with fail
  refine (cS _).mono ?_
  rintro e w1 ⟨rfl, hw⟩
  obtain rfl := hw.symm
  clear hw
  go_wp2_with fail
  refine (cT _).mono ?_
  rintro e w2 ⟨rfl, hw⟩
  obtain rfl := hw.symm
  clear hw cS cT
  rcases hc with hc | ⟨hc1, hc⟩ | ⟨hc1, hc2, hc⟩
  · have hz : ¬ (g.B.length : Int) = (g.n : Int) := by omega
    go_wp2
    go_ret
    exact ⟨rfl, below_box w _⟩
  · have hz1 : (g.B.length : Int) = (g.n : Int) := by omega
    have hz : ¬ (g.R.length : Int) = (g.n : Int) := by omega
    clear hc1
    go_wp2
    go_ret
    exact ⟨rfl, below_box w _⟩
  · have hz1 : (g.B.length : Int) = (g.n : Int) := by omega
    have hz2 : (g.R.length : Int) = (g.n : Int) := by omega
    have hz : ¬ (g.D.length : Int) = (g.n : Int) := by omega
    clear hc1 hc2
    go_wp2
    go_ret
    exact ⟨rfl, below_box w _⟩
end Go.Proofs.YthjgldjjplcncabDoor.Grd
/-
  The program's Check of a grid whose sides and sizes are right; Open, Count, Step, Near.
-/
namespace Go.Proofs.YthjgldjjplcncabDoor.Grd
open Go Go.Lib Go.RowKit

/-- What Check of a grid whose sides and sizes are right answers. -/
theorem Gr.chk_two {g : Gr} (h : g.sides) (h2 : g.sizes) : (g.barred ∧ g.chk = 52) ∨ (¬ g.barred ∧ g.chk = 0) := by
  by_cases hb : g.barred
  · exact .inl ⟨hb, Gr.chk_bar h h2 hb⟩
  · exact .inr ⟨hb, Gr.chk_ok h h2 hb⟩

set_option maxHeartbeats 2000000 in
theorem check_loop (g : Gr) (p : Ad) (w : World) (hw : Wy w) (hR : RG w g p) (h : g.sides) (h' : g.sizes) :
    Calls Tryd.prog 16 #[gv g p] w fun e w' => e = .returned (.int .i64 (g.chk : Nat)) ∧ Below w.heap.size w w' := by
  have hz := Sz.of h h'
  obtain ⟨b1, o1, c1, b2, o2, c2, b3, o3, c3, rfl, hA⟩ := hR.open hz
  have HA : Aside (∀ W, Below w.heap.size w W → RA W g b1 o1 b2 o2 b3 o3) := fun W hb => hA.below hb
  have cS := fun W => isSide_any g.h W
  have cT := fun W => isSide_any g.w W
  simp only [decide_eq_true h.1] at cS
  simp only [decide_eq_true h.2] at cT
  have hnl := hz.n_le.2
  have hmul : g.h * g.w = (g.n : Int) := by rw [← hz.sh.2.2, ← hz.sw.2.2]; exact (Int.natCast_mul _ _).symm
  have hz1 : (g.B.length : Int) = (g.n : Int) := by rw [hz.bl]
  have hz2 : (g.R.length : Int) = (g.n : Int) := by rw [hz.rl]
  have hz3 : (g.D.length : Int) = (g.n : Int) := by rw [hz.dl]
  have HH : Aside (∀ W k way, k < g.n → way < 4 → Below w.heap.size w W → Calls Tryd.prog 35 #[.agg #[.int .i64 g.h, .int .i64 g.w, .slice (some ⟨b1, o1, none⟩) g.B.length c1, .slice (some ⟨b2, o2, none⟩) g.R.length c2, .slice (some ⟨b3, o3, none⟩) g.D.length c3], .int .i64 (k : Nat), .int .i64 (way : Nat)] W fun e w' => e = .returned (.bool (g.bes k way).isSome) ∧ Below W.heap.size W w') :=
    fun W k way hk hway hb => hasBeside_any g ⟨some ⟨b1, o1, none⟩, c1, some ⟨b2, o2, none⟩, c2, some ⟨b3, o3, none⟩, c3⟩ hz k way hk hway W (hw.below hw.size hb) (hR.b.below hb)
  have HZ : Aside (Sz g) := hz
  have HC : Aside ((g.barred ∧ g.chk = 52) ∨ (¬ g.barred ∧ g.chk = 0)) := Gr.chk_two h h'
  unfold gv
  dsimp only
  go_enter Tryd.func16, Tryd.ntmps16
  go_wp2_with fail
  refine (cS _).mono ?_
  rintro e w1 ⟨rfl, hw1⟩
  obtain rfl := hw1.symm
  clear hw1
  go_wp2_with fail
  refine (cT _).mono ?_
  rintro e w2 ⟨rfl, hw2⟩
  obtain rfl := hw2.symm
  clear hw2 cS cT hz h h' hR hw hA
  go_wp2
  obtain ⟨w1, hw1⟩ : ∃ w1, w1 = w.alloc (.cells #[.int .i64 g.h, .int .i64 g.w, .slice (some ⟨b1, o1, none⟩) g.B.length c1, .slice (some ⟨b2, o2, none⟩) g.R.length c2, .slice (some ⟨b3, o3, none⟩) g.D.length c3] 27) := ⟨_, rfl⟩
  have HX : Aside (Bx w1 w.heap.size g ⟨some ⟨b1, o1, none⟩, c1, some ⟨b2, o2, none⟩, c2, some ⟨b3, o3, none⟩, c3⟩) := by subst hw1; exact Bx.new w g ⟨some ⟨b1, o1, none⟩, c1, some ⟨b2, o2, none⟩, c2, some ⟨b3, o3, none⟩, c3⟩ _
  have HB1 : Aside (Below w.heap.size w w1) := by subst hw1; exact below_box w _
  rw [← hw1]
  clear hw1
  go_loopg [40] g.n (fun g1 iv wr => ∃ k : Nat, iv = .int .i64 (k : Int) ∧ k ≤ g.n ∧ g.n - k ≤ g1 ∧ Aside (∀ j, j < k → ¬ g.badR j ∧ ¬ g.badD j) ∧ Aside (Below w1.heap.size w1 wr))
  case atStart => exact ⟨0, rfl, Nat.zero_le _, Nat.le_refl _, fun j hj => absurd hj (Nat.not_lt_zero j), Below.refl _ _⟩
  case round =>
    obtain ⟨k, rfl, hk, hg, HD, HBk⟩ := hrel
    have HBw : Aside (Below w.heap.size w wr) := HB1.out.trans (HBk.out.mono HB1.out.size)
    by_cases hlt : k < g.n
    · have hltz : (k : Int) < (g.n : Int) := by omega
      obtain ⟨_, k0, k1, k2, k3, k4⟩ := HX.out.keep HBk.out
      dsimp only at k2 k3 k4
      have hRk := HA.out wr HBw.out
      have eR := hRk.e2 k hlt
      have eD := hRk.e3 k hlt
      have hb2 := hRk.l2
      have hb3 := hRk.l3
      have c0 := HH.out wr k 0 hlt (by decide) HBw.out
      have HI0 : Aside (g.badR k ↔ bt g.R k = true ∧ g.bes k 0 = none) := Gr.badR_iff HZ.out.sw.1
      have HI1 : Aside (g.badD k ↔ bt g.D k = true ∧ g.bes k 1 = none) := Gr.badD_iff hlt
      have HNR : Aside ((bt g.R k = false ∨ (g.bes k 0).isSome = true) → ¬ g.badR k) := fun h hb => by
        have := HI0.out.1 hb
        rcases h with h | h
        · rw [h] at this; cases this.1
        · rw [this.2] at h; cases h
      have HND : Aside ((bt g.D k = false ∨ (g.bes k 1).isSome = true) → ¬ g.badD k) := fun h hb => by
        have := HI1.out.1 hb
        rcases h with h | h
        · rw [h] at this; cases this.1
        · rw [this.2] at h; cases h
      have HYR : Aside (bt g.R k = true → (g.bes k 0).isSome = false → g.chk = 52) := fun h h2 => by
        rcases HC.out with ⟨_, h⟩ | ⟨hn, _⟩
        · exact h
        · exact absurd ⟨k, hlt, .inl (HI0.out.2 ⟨h, by simpa using h2⟩)⟩ hn
      have HYD : Aside (bt g.D k = true → (g.bes k 1).isSome = false → g.chk = 52) := fun h h2 => by
        rcases HC.out with ⟨_, h⟩ | ⟨hn, _⟩
        · exact h
        · exact absurd ⟨k, hlt, .inr (HI1.out.2 ⟨h, by simpa using h2⟩)⟩ hn
      have HSN : Aside (¬ g.badR k → ¬ g.badD k → ∀ j, j < k + 1 → ¬ g.badR j ∧ ¬ g.badD j) := fun h1 h2 j hj => by
        by_cases e : j = k
        · subst e; exact ⟨h1, h2⟩
        · exact HD.out j (by omega)
      clear hRk HI0 HI1 HD
      generalize bt g.R k = xr at *
      generalize bt g.D k = xd at *
      have hm1 : g.n - (k + 1) < g.n - k := by omega
      cases xr with
      | false =>
        clear c0
        cases xd with
        | false =>
          go_wp2
          go_roundg (g.n - (k + 1))
          case measure => omega
          case rel => exact ⟨k + 1, by go_num, by omega, Nat.le_refl _, HSN.out (HNR.out (.inl (by simp))) (HND.out (.inl (by simp))), HBk.out⟩
        | true =>
          have c1 := HH.out wr k 1 hlt (by decide) (HB1.out.trans ((HBk.out).mono HB1.out.size))
          generalize hs1 : (g.bes k 1).isSome = s1 at c1
          go_wp2_with fail
          refine c1.mono ?_
          rintro e wd ⟨rfl, hbd⟩
          clear c1
          cases s1 with
          | false =>
            have HCC : Aside (g.chk = 52) := HYD.out (by simp) hs1
            go_wp2
            go_ret
            exact ⟨by rw [HCC.out]; rfl, HB1.out.trans (((HBk.out).trans (hbd.mono (HBk.out).size)).mono HB1.out.size)⟩
          | true =>
            go_wp2
            go_roundg (g.n - (k + 1))
            case measure => omega
            case rel => exact ⟨k + 1, by go_num, by omega, Nat.le_refl _, HSN.out (HNR.out (.inl (by simp))) (HND.out (.inr hs1)), (HBk.out).trans (hbd.mono (HBk.out).size)⟩
      | true =>
        generalize hs0 : (g.bes k 0).isSome = s0 at c0
        go_wp2_with fail
        refine c0.mono ?_
        rintro e wc ⟨rfl, hbc⟩
        clear c0
        have HBc : Aside (Below w1.heap.size w1 wc) := HBk.out.trans (hbc.mono HBk.out.size)
        cases s0 with
        | false =>
          have HCC : Aside (g.chk = 52) := HYR.out (by simp) hs0
          go_wp2
          go_ret
          exact ⟨by rw [HCC.out]; rfl, HB1.out.trans (HBc.out.mono HB1.out.size)⟩
        | true =>
          obtain ⟨_, k0, k1, k2, k3, k4⟩ := HX.out.keep HBc.out
          dsimp only at k2 k3 k4
          have eD := (hbc.cell (p := ⟨b3, o3 + k, none⟩) hb3).trans eD
          clear hbc
          cases xd with
          | false =>
            go_wp2
            go_roundg (g.n - (k + 1))
            case measure => omega
            case rel => exact ⟨k + 1, by go_num, by omega, Nat.le_refl _, HSN.out (HNR.out (.inr hs0)) (HND.out (.inl (by simp))), HBc.out⟩
          | true =>
            have c1 := HH.out wc k 1 hlt (by decide) (HB1.out.trans ((HBc.out).mono HB1.out.size))
            generalize hs1 : (g.bes k 1).isSome = s1 at c1
            go_wp2_with fail
            refine c1.mono ?_
            rintro e wd ⟨rfl, hbd⟩
            clear c1
            cases s1 with
            | false =>
              have HCC : Aside (g.chk = 52) := HYD.out (by simp) hs1
              go_wp2
              go_ret
              exact ⟨by rw [HCC.out]; rfl, HB1.out.trans (((HBc.out).trans (hbd.mono (HBc.out).size)).mono HB1.out.size)⟩
            | true =>
              go_wp2
              go_roundg (g.n - (k + 1))
              case measure => omega
              case rel => exact ⟨k + 1, by go_num, by omega, Nat.le_refl _, HSN.out (HNR.out (.inr hs0)) (HND.out (.inr hs1)), (HBc.out).trans (hbd.mono (HBc.out).size)⟩
    · have hltz : ¬ (k : Int) < (g.n : Int) := by omega
      have HCC : Aside (g.chk = 0) := by
        show g.chk = 0
        rcases HC.out with ⟨⟨i, hi, hbad⟩, _⟩ | ⟨_, h⟩
        · have := HD.out i (by omega)
          rcases hbad with h | h
          · exact absurd h this.1
          · exact absurd h this.2
        · exact h
      go_wp2
      go_ret
      exact ⟨by rw [HCC.out]; rfl, HBw.out⟩
end Go.Proofs.YthjgldjjplcncabDoor.Grd
/-
  The program's Check, Open, Count and Step of any grid.
-/
namespace Go.Proofs.YthjgldjjplcncabDoor.Grd
open Go Go.Lib Go.RowKit

theorem check_any (g : Gr) (p : Ad) (w : World) (hw : Wy w) (hR : RG w g p) :
    Calls Tryd.prog 16 #[gv g p] w fun e w' => e = .returned (.int .i64 (g.chk : Nat)) ∧ Below w.heap.size w w' := by
  by_cases h : g.sides
  · by_cases h' : g.sizes
    · exact check_loop g p w hw hR h h'
    · rw [Gr.chk_size h h']; exact check_size g p w h h'
  · rw [Gr.chk_side h]; exact check_side g p w h

/-- Is there an open cell of this number? -/
def Gr.opI (g : Gr) (i : Int) : Bool := decide g.ok && (decide (0 ≤ i ∧ i < (g.B.length : Int)) && !bt g.B i.toNat)
theorem Gr.chk_le (g : Gr) : g.chk ≤ 52 := by
  unfold Gr.chk
  by_cases h : g.sides
  · by_cases h2 : g.sizes
    · by_cases h3 : g.barredB = true <;> simp [h, h2, h3]
    · simp [h, h2]
  · simp [h]
theorem Gr.opI_iff {g : Gr} {i : Int} : g.opI i = true ↔ g.ok ∧ ∃ k : Nat, i = k ∧ g.opn k = true := by
  unfold Gr.opI
  constructor
  · intro h
    simp only [Bool.and_eq_true, decide_eq_true_eq] at h
    obtain ⟨h1, ⟨h2, h3⟩, h4⟩ := h
    obtain ⟨k, rfl⟩ := Int.eq_ofNat_of_zero_le h2
    refine ⟨h1, k, rfl, Gr.opn_iff.2 ⟨?_, by simpa using h4⟩⟩
    have := (Gr.right_of h1).bl
    omega
  · rintro ⟨h1, k, rfl, h⟩
    obtain ⟨h2, h3⟩ := Gr.opn_iff.1 h
    have := (Gr.right_of h1).bl
    simp [h1, h3]
    omega

/-- How many cells are open. -/
def Gr.cnt (g : Gr) : Nat := if g.ok then uns g.B else 0
theorem uns_take {l : List Bool} {k : Nat} (hk : k < l.length) : uns (l.take (k + 1)) = uns (l.take k) + (if bt l k then 0 else 1) := by
  rw [List.take_succ_eq_append_getElem hk, bt_in hk]
  unfold uns
  rw [List.filter_append, List.length_append]
  cases l[k] <;> rfl

set_option maxHeartbeats 1000000 in
theorem count_any (g : Gr) (p : Ad) (w : World) (hw : Wy w) (hR : RG w g p) :
    Calls Tryd.prog 12 #[gv g p] w fun e w' => e = .returned (.int .i64 (g.cnt : Nat)) ∧ Below w.heap.size w w' := by
  have hcl := g.chk_le
  by_cases hc : g.chk = 0
  · have hz := (Gr.right_of hc).sz
    have hn := hz.n_le
    obtain ⟨b1, o1, c1, b2, o2, c2, b3, o3, c3, rfl, hA⟩ := hR.open hz
    have cC := check_any g ⟨some ⟨b1, o1, none⟩, c1, some ⟨b2, o2, none⟩, c2, some ⟨b3, o3, none⟩, c3⟩ (w.alloc (.cells #[.int .i64 g.h, .int .i64 g.w, .slice (some ⟨b1, o1, none⟩) g.B.length c1, .slice (some ⟨b2, o2, none⟩) g.R.length c2, .slice (some ⟨b3, o3, none⟩) g.D.length c3] 27)) (hw.below hw.size (below_box w _)) (hR.below (below_box w _))
    have hcnt : g.cnt = uns g.B := if_pos hc
    rw [hcnt]
    rw [hc] at cC
    unfold gv at cC
    unfold gv
    dsimp only at cC ⊢
    have hBl := hz.bl
    rw [hBl] at cC ⊢
    clear hcl hc hcnt hz
    go_enter Tryd.func12, Tryd.ntmps12
    go_wp2_with fail
    refine cC.mono ?_
    rintro e w1 ⟨rfl, hb1⟩
    have HX := Bx.new w g ⟨some ⟨b1, o1, none⟩, c1, some ⟨b2, o2, none⟩, c2, some ⟨b3, o3, none⟩, c3⟩ 27
    dsimp only at HX
    rw [hBl] at HX
    obtain ⟨_, k0, k1, k2, k3, k4⟩ := HX.keep hb1
    have HB1 : Aside (Below w.heap.size w w1) := (below_box w _).trans (hb1.mono (below_box w _).size)
    dsimp only at k2 k3 k4
    rw [hBl] at k2
    have hA1 := (hA.below HB1.out).e1
    have HBl : Aside (g.B.length = g.n) := hBl
    clear hb1 cC HX hA hBl hR
    go_wp2
    go_loopg [3, 12] g.n (fun g1 nv iv wr => ∃ k : Nat, iv = .int .i64 (k : Int) ∧ nv = .int .i64 (uns (g.B.take k) : Nat) ∧ k ≤ g.n ∧ g.n - k ≤ g1 ∧ wr = w1)
    case atStart => exact ⟨0, rfl, rfl, Nat.zero_le _, Nat.le_refl _, rfl⟩
    case round =>
      obtain ⟨k, rfl, rfl, hk, hg, rfl⟩ := hrel
      by_cases hlt : k < g.n
      · have hltz : (k : Int) < (g.n : Int) := by omega
        have eB := hA1 k hlt
        have HU : Aside (uns (g.B.take (k + 1)) = uns (g.B.take k) + (if bt g.B k then 0 else 1)) := uns_take (by rw [HBl.out]; exact hlt)
        have hul : uns (g.B.take k) ≤ k := Nat.le_trans (uns_le _) (by rw [List.length_take]; omega)
        generalize uns (g.B.take k) = u at *
        generalize bt g.B k = x at *
        clear hA1
        cases x with
        | false =>
          go_wp2
          go_roundg (g.n - (k + 1))
          case measure => omega
          case rel => exact ⟨k + 1, by go_num, by rw [HU.out]; rfl, by omega, Nat.le_refl _, rfl⟩
        | true =>
          go_wp2
          go_roundg (g.n - (k + 1))
          case measure => omega
          case rel => exact ⟨k + 1, by go_num, by rw [HU.out]; rfl, by omega, Nat.le_refl _, rfl⟩
      · have hltz : ¬ (k : Int) < (g.n : Int) := by omega
        have e : g.B.take k = g.B := List.take_of_length_le (by rw [HBl.out]; omega)
        rw [e]
        clear e
        go_wp2
        go_ret
        exact ⟨rfl, HB1.out⟩
  · have cC := check_any g p (w.alloc (.cells #[.int .i64 g.h, .int .i64 g.w, .slice p.a1 g.B.length p.c1, .slice p.a2 g.R.length p.c2, .slice p.a3 g.D.length p.c3] 27)) (hw.below hw.size (below_box w _)) (hR.below (below_box w _))
    have hcnt : g.cnt = 0 := if_neg hc
    rw [hcnt]
    unfold gv at cC
    unfold gv
    have hc2 : ¬ ((g.chk : Nat) : Int) = 0 := by omega
    go_enter Tryd.func12, Tryd.ntmps12
    go_wp2_with fail
    refine cC.mono ?_
    rintro e w1 ⟨rfl, hb1⟩
    have HB1 : Aside (Below w.heap.size w w1) := (below_box w _).trans (hb1.mono (below_box w _).size)
    clear hb1 cC
    go_wp2
    go_ret
    exact ⟨rfl, HB1.out⟩

/-- What Step answers, at any numbers. -/
def Gr.stI (g : Gr) (i way : Int) : Option Nat := if g.opI i = true ∧ 0 ≤ way ∧ way < 4 then g.st i.toNat way.toNat else none

end Go.Proofs.YthjgldjjplcncabDoor.Grd
