/-
  The document's barred, Check, Open and Count of any grid.
-/
import Derived.Test.YthjgldjjplcncaaDoorGrdk
namespace Go.Proofs.YthjgldjjplcncaaDoor.Grd
open Go Go.Lib Go.RowKit

set_option maxRecDepth 20000 in
set_option maxHeartbeats 4000000 in
theorem barred_any (g : Gr) (p : Ad) (hz : Sz g) (w : World) (hR : RG w g p) :
    Calls Tryd.prog 26 #[gv g p] w fun e w' => e = .returned (.bool g.barredB) ∧ Below w.heap.size w w' := by
  obtain ⟨b1, o1, c1, b2, o2, c2, b3, o3, c3, rfl, hA⟩ := hR.open hz
  obtain ⟨hH1, hH2, hH3⟩ := hz.sh
  obtain ⟨hW1, hW2, hW3⟩ := hz.sw
  have hnl := hz.n_le
  have HBT : Aside ((∃ i, i < g.n ∧ (g.badR i ∨ g.badD i)) → g.barredB = true) := fun h => (Gr.barredB_iff g).2 h
  have HBF : Aside ((∀ i, i < g.n → ¬ g.badR i ∧ ¬ g.badD i) → g.barredB = false) := fun h => by
    rw [Bool.eq_false_iff]
    intro hb
    obtain ⟨i, hi, hbad⟩ := (Gr.barredB_iff g).1 hb
    rcases hbad with h1 | h1
    · exact (h i hi).1 h1
    · exact (h i hi).2 h1
  have hBl : (g.B.length : Int) = (g.n : Int) := by rw [hz.bl]
  have hRl : (g.R.length : Int) = (g.n : Int) := by rw [hz.rl]
  have hDl : (g.D.length : Int) = (g.n : Int) := by rw [hz.dl]
  have HRA : Aside (∀ W, Below w.heap.size w W → RA W g b1 o1 b2 o2 b3 o3) := fun W h => hA.below h
  have HDEF : Aside (∀ i, (g.badR i ↔ bt g.R i = true ∧ (bt g.B i = true ∨ i % g.W = g.W - 1 ∨ bt g.B (i + 1) = true)) ∧ (g.badD i ↔ bt g.D i = true ∧ (bt g.B i = true ∨ i / g.W = g.H - 1 ∨ bt g.B (i + g.W) = true))) := fun i => ⟨Iff.rfl, Iff.rfl⟩
  unfold gv
  dsimp only
  rw [← hH3, ← hW3]
  have HNP : Aside (g.H * g.W = g.n) := rfl
  generalize g.barredB = ans at *
  have hmul : (g.H : Int) * (g.W : Int) = (g.n : Int) := by rw [← HNP.out, Int.natCast_mul]
  have HH3 : Aside ((g.H : Int) = g.h) := hH3
  have HW3 : Aside ((g.W : Int) = g.w) := hW3
  clear hR hA hz hH3 hW3
  go_enter Tryd.func26, Tryd.ntmps26
  go_wp2
  have HX := Bx.new w g ⟨some ⟨b1, o1, none⟩, c1, some ⟨b2, o2, none⟩, c2, some ⟨b3, o3, none⟩, c3⟩ 25
  dsimp only at HX
  rw [← HH3.out, ← HW3.out] at HX
  have hRA := HRA.out _ (below_box w (.cells #[.int .i64 (g.H : Int), .int .i64 (g.W : Int), .slice (some ⟨b1, o1, none⟩) g.B.length c1, .slice (some ⟨b2, o2, none⟩) g.R.length c2, .slice (some ⟨b3, o3, none⟩) g.D.length c3] 25))
  have HBe : Aside (Below w.heap.size w (w.alloc (.cells #[.int .i64 (g.H : Int), .int .i64 (g.W : Int), .slice (some ⟨b1, o1, none⟩) g.B.length c1, .slice (some ⟨b2, o2, none⟩) g.R.length c2, .slice (some ⟨b3, o3, none⟩) g.D.length c3] 25))) := below_box w _
  generalize w.alloc (.cells #[.int .i64 (g.H : Int), .int .i64 (g.W : Int), .slice (some ⟨b1, o1, none⟩) g.B.length c1, .slice (some ⟨b2, o2, none⟩) g.R.length c2, .slice (some ⟨b3, o3, none⟩) g.D.length c3] 25) = w1 at *
  obtain ⟨_, k0, k1, k2, k3, k4⟩ := HX
  dsimp only at k2 k3 k4
  rw [← HH3.out] at k0
  rw [← HW3.out] at k1
  go_loopg [3] g.n (fun g1 iv wr => ∃ k nd : Nat, iv = .int .i64 (k : Int) ∧ k ≤ g.n ∧ g.n - k ≤ g1 ∧ Aside (∀ j, j < k → ¬ g.badR j ∧ ¬ g.badD j) ∧ wr = w1.drewN nd)
  case atStart => exact ⟨0, 0, rfl, Nat.zero_le _, Nat.le_refl _, fun j hj => absurd hj (Nat.not_lt_zero j), rfl⟩
  case round =>
    obtain ⟨k, nd, rfl, hk, hg, HD, rfl⟩ := hrel
    by_cases hlt : k < g.n
    · have hltz : (k : Int) < (g.n : Int) := by omega
      have eR := hRA.e2 k hlt
      have eB := hRA.e1 k hlt
      have eD := hRA.e3 k hlt
      have hW0 : ¬ g.W = 0 := by omega
      have HSN : Aside (¬ g.badR k → ¬ g.badD k → ∀ j, j < k + 1 → ¬ g.badR j ∧ ¬ g.badD j) := fun h1 h2 j hj => by
        by_cases e : j = k
        · subst e; exact ⟨h1, h2⟩
        · exact HD.out j (by omega)
      have hmlt := Nat.mod_lt k hW1
      have hqlt : k / g.W < g.H := row_lt (by rw [HNP.out]; exact hlt)
      have hdv := int_div k g.W
      have hmd := int_mod k g.W
      have HRT : Aside (k % g.W < g.W - 1 → k + 1 < g.n) := fun h => by rw [← HNP.out]; exact right_lt (by rw [HNP.out]; exact hlt) h
      have HDN : Aside (k / g.W < g.H - 1 → k + g.W < g.n) := fun h => by rw [← HNP.out]; exact down_lt h hW1
      obtain ⟨q, hqe⟩ : ∃ q, k / g.W = q := ⟨_, rfl⟩
      obtain ⟨m, hme⟩ : ∃ m, k % g.W = m := ⟨_, rfl⟩
      rw [hqe] at hdv hqlt HDN
      rw [hme] at hmd hmlt HRT
      have HQE : Aside (k / g.W = q) := hqe
      have HME : Aside (k % g.W = m) := hme
      clear hqe hme
      clear HD
      cases hxr : bt g.R k with
      | false =>
        rw [hxr] at eR
        go_wp2
        go_quiet (fail)
        go_wp2
        cases hxd : bt g.D k with
        | false =>
          rw [hxd] at eD
          have HN : Aside (∀ j, j < k + 1 → ¬ g.badR j ∧ ¬ g.badD j) := HSN.out (fun h => by have := ((HDEF.out k).1.1 h).1; rw [hxr] at this; cases this) (fun h => by have := ((HDEF.out k).2.1 h).1; rw [hxd] at this; cases this)
          go_quiet (fail)
          go_wp2
          go_roundg (g.n - (k + 1))
          case measure => omega
          case rel => exact ⟨k + 1, _, by go_num, by omega, Nat.le_refl _, HN, rfl⟩
        | true =>
          rw [hxd] at eD
          cases hxb : bt g.B k with
          | true =>
            rw [hxb] at eB
            have HT : Aside (ans = true) := HBT.out ⟨k, hlt, .inr ((HDEF.out k).2.2 ⟨hxd, .inl hxb⟩)⟩
            go_quiet (fail)
            go_wp2
            go_ret
            exact ⟨by rw [HT.out]; rfl, by first | exact below_drewN HBe.out _ | exact below_drewN (below_drewN HBe.out _) _ | exact below_drewN (below_drewN (below_drewN HBe.out _) _) _⟩
          | false =>
            rw [hxb] at eB
            by_cases hql : q = g.H - 1
            · have hqb : ((q : Int) == (g.H : Int) - 1) = true := by rw [hql]; simp; omega
              have HQ : Aside (k / g.W = g.H - 1) := HQE.out.trans hql
              clear hql
              have HT : Aside (ans = true) := HBT.out ⟨k, hlt, .inr ((HDEF.out k).2.2 ⟨hxd, .inr (.inl HQ.out)⟩)⟩
              go_quiet (fail)
              go_wp2
              go_ret
              exact ⟨by rw [HT.out]; rfl, by first | exact below_drewN HBe.out _ | exact below_drewN (below_drewN HBe.out _) _ | exact below_drewN (below_drewN (below_drewN HBe.out _) _) _⟩
            · have hqb : ((q : Int) == (g.H : Int) - 1) = false := by
                rw [beq_eq_false_iff_ne]
                omega
              have HQ : Aside (¬ k / g.W = g.H - 1) := fun h => hql (HQE.out.symm.trans h)
              have hwl : k + g.W < g.n := HDN.out (by omega)
              have eBW := hRA.e1 (k + g.W) hwl
              clear hql
              cases hxw : bt g.B (k + g.W) with
              | true =>
                rw [hxw] at eBW
                have HT : Aside (ans = true) := HBT.out ⟨k, hlt, .inr ((HDEF.out k).2.2 ⟨hxd, .inr (.inr hxw)⟩)⟩
                go_quiet (fail)
                go_wp2
                go_ret
                exact ⟨by rw [HT.out]; rfl, by first | exact below_drewN HBe.out _ | exact below_drewN (below_drewN HBe.out _) _ | exact below_drewN (below_drewN (below_drewN HBe.out _) _) _⟩
              | false =>
                rw [hxw] at eBW
                have HN : Aside (∀ j, j < k + 1 → ¬ g.badR j ∧ ¬ g.badD j) := HSN.out (fun h => by have := ((HDEF.out k).1.1 h).1; rw [hxr] at this; cases this) (fun h => by
                  rcases ((HDEF.out k).2.1 h).2 with h1 | h1 | h1
                  · rw [hxb] at h1; cases h1
                  · exact HQ.out h1
                  · rw [hxw] at h1; cases h1)
                go_quiet (fail)
                go_wp2
                go_roundg (g.n - (k + 1))
                case measure => omega
                case rel => exact ⟨k + 1, _, by go_num, by omega, Nat.le_refl _, HN, rfl⟩
      | true =>
        rw [hxr] at eR
        cases hxb : bt g.B k with
        | true =>
          rw [hxb] at eB
          have HT : Aside (ans = true) := HBT.out ⟨k, hlt, .inl ((HDEF.out k).1.2 ⟨hxr, .inl hxb⟩)⟩
          go_wp2
          go_quiet (fail)
          go_wp2
          go_ret
          exact ⟨by rw [HT.out]; rfl, by first | exact below_drewN HBe.out _ | exact below_drewN (below_drewN HBe.out _) _ | exact below_drewN (below_drewN (below_drewN HBe.out _) _) _⟩
        | false =>
          rw [hxb] at eB
          by_cases hml : m = g.W - 1
          · have hmb : ((m : Int) == (g.W : Int) - 1) = true := by rw [hml]; simp; omega
            have HM : Aside (k % g.W = g.W - 1) := HME.out.trans hml
            clear hml
            have HT : Aside (ans = true) := HBT.out ⟨k, hlt, .inl ((HDEF.out k).1.2 ⟨hxr, .inr (.inl HM.out)⟩)⟩
            go_wp2
            go_quiet (fail)
            go_wp2
            go_ret
            exact ⟨by rw [HT.out]; rfl, by first | exact below_drewN HBe.out _ | exact below_drewN (below_drewN HBe.out _) _ | exact below_drewN (below_drewN (below_drewN HBe.out _) _) _⟩
          · have hmb : ((m : Int) == (g.W : Int) - 1) = false := by
              rw [beq_eq_false_iff_ne]
              omega
            have HM : Aside (¬ k % g.W = g.W - 1) := fun h => hml (HME.out.symm.trans h)
            have hwl1 : k + 1 < g.n := HRT.out (by omega)
            have eB1 := hRA.e1 (k + 1) hwl1
            clear hml
            cases hx1 : bt g.B (k + 1) with
            | true =>
              rw [hx1] at eB1
              have HT : Aside (ans = true) := HBT.out ⟨k, hlt, .inl ((HDEF.out k).1.2 ⟨hxr, .inr (.inr hx1)⟩)⟩
              go_wp2
              go_quiet (fail)
              go_wp2
              go_ret
              exact ⟨by rw [HT.out]; rfl, by first | exact below_drewN HBe.out _ | exact below_drewN (below_drewN HBe.out _) _ | exact below_drewN (below_drewN (below_drewN HBe.out _) _) _⟩
            | false =>
              rw [hx1] at eB1
              go_wp2
              go_quiet (fail)
              go_wp2
              cases hxd : bt g.D k with
              | false =>
                rw [hxd] at eD
                have HN : Aside (∀ j, j < k + 1 → ¬ g.badR j ∧ ¬ g.badD j) := HSN.out (fun h => by
                  rcases ((HDEF.out k).1.1 h).2 with h1 | h1 | h1
                  · rw [hxb] at h1; cases h1
                  · exact HM.out h1
                  · rw [hx1] at h1; cases h1) (fun h => by have := ((HDEF.out k).2.1 h).1; rw [hxd] at this; cases this)
                go_quiet (fail)
                go_wp2
                go_roundg (g.n - (k + 1))
                case measure => omega
                case rel => exact ⟨k + 1, _, by go_num, by omega, Nat.le_refl _, HN, rfl⟩
              | true =>
                rw [hxd] at eD
                by_cases hql : q = g.H - 1
                · have hqb : ((q : Int) == (g.H : Int) - 1) = true := by rw [hql]; simp; omega
                  have HQ : Aside (k / g.W = g.H - 1) := HQE.out.trans hql
                  clear hql
                  have HT : Aside (ans = true) := HBT.out ⟨k, hlt, .inr ((HDEF.out k).2.2 ⟨hxd, .inr (.inl HQ.out)⟩)⟩
                  go_quiet (fail)
                  go_wp2
                  go_ret
                  exact ⟨by rw [HT.out]; rfl, by first | exact below_drewN HBe.out _ | exact below_drewN (below_drewN HBe.out _) _ | exact below_drewN (below_drewN (below_drewN HBe.out _) _) _⟩
                · have hqb : ((q : Int) == (g.H : Int) - 1) = false := by
                    rw [beq_eq_false_iff_ne]
                    omega
                  have HQ : Aside (¬ k / g.W = g.H - 1) := fun h => hql (HQE.out.symm.trans h)
                  have hwl : k + g.W < g.n := HDN.out (by omega)
                  have eBW := hRA.e1 (k + g.W) hwl
                  clear hql
                  cases hxw : bt g.B (k + g.W) with
                  | true =>
                    rw [hxw] at eBW
                    have HT : Aside (ans = true) := HBT.out ⟨k, hlt, .inr ((HDEF.out k).2.2 ⟨hxd, .inr (.inr hxw)⟩)⟩
                    go_quiet (fail)
                    go_wp2
                    go_ret
                    exact ⟨by rw [HT.out]; rfl, by first | exact below_drewN HBe.out _ | exact below_drewN (below_drewN HBe.out _) _ | exact below_drewN (below_drewN (below_drewN HBe.out _) _) _⟩
                  | false =>
                    rw [hxw] at eBW
                    have HN : Aside (∀ j, j < k + 1 → ¬ g.badR j ∧ ¬ g.badD j) := HSN.out (fun h => by
                  rcases ((HDEF.out k).1.1 h).2 with h1 | h1 | h1
                  · rw [hxb] at h1; cases h1
                  · exact HM.out h1
                  · rw [hx1] at h1; cases h1) (fun h => by
                      rcases ((HDEF.out k).2.1 h).2 with h1 | h1 | h1
                      · rw [hxb] at h1; cases h1
                      · exact HQ.out h1
                      · rw [hxw] at h1; cases h1)
                    go_quiet (fail)
                    go_wp2
                    go_roundg (g.n - (k + 1))
                    case measure => omega
                    case rel => exact ⟨k + 1, _, by go_num, by omega, Nat.le_refl _, HN, rfl⟩
    · have hltz : ¬ (k : Int) < (g.n : Int) := by omega
      have HT : Aside (ans = false) := HBF.out fun i hi => HD.out i (by omega)
      go_wp2
      go_ret
      exact ⟨by rw [HT.out]; rfl, by first | exact below_drewN HBe.out _ | exact below_drewN (below_drewN HBe.out _) _ | exact below_drewN (below_drewN (below_drewN HBe.out _) _) _⟩
end Go.Proofs.YthjgldjjplcncaaDoor.Grd
/-
  The document's Check, Open and Count of any grid.
-/
namespace Go.Proofs.YthjgldjjplcncaaDoor.Grd
open Go Go.Lib Go.RowKit

set_option maxHeartbeats 1000000 in
theorem refCheck_side (g : Gr) (p : Ad) (w : World) (h : ¬ g.sides) :
    Calls Tryd.prog 13 #[gv g p] w fun e w' => e = .returned (.int .i64 50) ∧ Below w.heap.size w w' := by
  have cS := fun W => side_any g.h W
  have cT := fun W => side_any g.w W
  unfold gv
  by_cases hh : sideOk g.h
  · have hv : ¬ sideOk g.w := fun hv => h ⟨hh, hv⟩
    simp only [decide_eq_true hh] at cS
    simp only [decide_eq_false hv] at cT
    go_enter Tryd.func13, Tryd.ntmps13
    go_wp2_with fail
    refine (cS _).mono ?_
    rintro e w1 ⟨rfl, hw⟩
    obtain rfl := hw.symm
    clear hw
    go_wp2_with fail
    refine (cT _).mono ?_
    rintro e w2 ⟨rfl, hw⟩
    obtain rfl := hw.symm
    clear hw cS cT
    go_wp2
    go_ret
    exact ⟨rfl, below_box w _⟩
  · simp only [decide_eq_false hh] at cS
    go_enter Tryd.func13, Tryd.ntmps13
    go_wp2_with fail
    refine (cS _).mono ?_
    rintro e w1 ⟨rfl, hw⟩
    obtain rfl := hw.symm
    clear hw cS cT
    go_wp2
    go_ret
    exact ⟨rfl, below_box w _⟩

set_option maxHeartbeats 1000000 in
theorem refCheck_sides (g : Gr) (p : Ad) (w : World) (hR : RG w g p) (h : g.sides) :
    Calls Tryd.prog 13 #[gv g p] w fun e w' => e = .returned (.int .i64 (g.chk : Nat)) ∧ Below w.heap.size w w' := by
  have cS := fun W => side_any g.h W
  have cT := fun W => side_any g.w W
  simp only [decide_eq_true h.1] at cS
  simp only [decide_eq_true h.2] at cT
  obtain ⟨⟨h1, h2, h3⟩, h4, h5, h6⟩ := Gr.sides_nat h
  have hnl : g.n ≤ 256 := by unfold Gr.n; exact Nat.mul_le_mul h2 h5
  have hmul : g.h * g.w = (g.n : Int) := by rw [← h3, ← h6]; exact (Int.natCast_mul _ _).symm
  by_cases h' : g.sizes
  · have HC : Aside (g.chk = if g.barredB then 52 else 0) := by
      show g.chk = _
      unfold Gr.chk
      rw [if_neg (by simpa using h), if_neg (by simpa using h')]
    have cB := barred_any g p (Sz.of h h') (w.alloc (.cells #[.int .i64 g.h, .int .i64 g.w, .slice p.a1 g.B.length p.c1, .slice p.a2 g.R.length p.c2, .slice p.a3 g.D.length p.c3] 25)) (hR.below (below_box w _))
    have hz1 : (g.B.length : Int) = (g.n : Int) := by rw [h'.1]
    have hz2 : (g.R.length : Int) = (g.n : Int) := by rw [h'.2.1]
    have hz3 : (g.D.length : Int) = (g.n : Int) := by rw [h'.2.2]
    unfold gv at cB
    unfold gv
    generalize g.barredB = x at *
    clear h h' h3 h6 hR
    go_enter Tryd.func13, Tryd.ntmps13
    go_wp2_with fail
    refine (cS _).mono ?_
    rintro e w1 ⟨rfl, hw⟩
    obtain rfl := hw.symm
    clear hw
    go_wp2_with fail
    refine (cT _).mono ?_
    rintro e w2 ⟨rfl, hw⟩
    obtain rfl := hw.symm
    clear hw cS cT
    go_wp2_with fail
    refine cB.mono ?_
    rintro e w3 ⟨rfl, hb3⟩
    have HB3 : Aside (Below w.heap.size w w3) := (below_box w _).trans (hb3.mono (below_box w _).size)
    clear cB hb3
    cases x with
    | true =>
      go_wp2
      go_ret
      exact ⟨by rw [HC.out]; rfl, HB3.out⟩
    | false =>
      go_wp2
      go_ret
      exact ⟨by rw [HC.out]; rfl, HB3.out⟩
  · have hc : ¬ g.B.length = g.n ∨ (g.B.length = g.n ∧ ¬ g.R.length = g.n) ∨ (g.B.length = g.n ∧ g.R.length = g.n ∧ ¬ g.D.length = g.n) := by
      unfold Gr.sizes at h'
      omega
    rw [Gr.chk_size h h']
    unfold gv
    clear h h' h3 h6 hR
    go_enter Tryd.func13, Tryd.ntmps13
    go_wp2_with fail
    refine (cS _).mono ?_
    rintro e w1 ⟨rfl, hw⟩
    obtain rfl := hw.symm
    clear hw
    go_wp2_with fail
    refine (cT _).mono ?_
    rintro e w2 ⟨rfl, hw⟩
    obtain rfl := hw.symm
    clear hw cS cT
    rcases hc with hc | ⟨hc1, hc⟩ | ⟨hc1, hc2, hc⟩
    · have hz : ¬ (g.B.length : Int) = (g.n : Int) := by omega
      go_wp2
      go_ret
      exact ⟨rfl, below_box w _⟩
    · have hz1 : (g.B.length : Int) = (g.n : Int) := by omega
      have hz : ¬ (g.R.length : Int) = (g.n : Int) := by omega
      clear hc1
      go_wp2
      go_ret
      exact ⟨rfl, below_box w _⟩
    · have hz1 : (g.B.length : Int) = (g.n : Int) := by omega
      have hz2 : (g.R.length : Int) = (g.n : Int) := by omega
      have hz : ¬ (g.D.length : Int) = (g.n : Int) := by omega
      clear hc1 hc2
      go_wp2
      go_ret
      exact ⟨rfl, below_box w _⟩

theorem refCheck_any (g : Gr) (p : Ad) (w : World) (hR : RG w g p) :
    Calls Tryd.prog 13 #[gv g p] w fun e w' => e = .returned (.int .i64 (g.chk : Nat)) ∧ Below w.heap.size w w' := by
  by_cases h : g.sides
  · exact refCheck_sides g p w hR h
  · rw [Gr.chk_side h]; exact refCheck_side g p w h

end Go.Proofs.YthjgldjjplcncaaDoor.Grd
