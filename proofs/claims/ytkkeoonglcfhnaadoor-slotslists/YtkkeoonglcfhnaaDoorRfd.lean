/-
  The document's Step and Near of any grid.
-/
import Derived.Test.YtkkeoonglcfhnaaDoorRfb
namespace Go.Proofs.YtkkeoonglcfhnaaDoor.Grd
open Go Go.Lib Go.RowKit

set_option maxHeartbeats 1000000 in
theorem refStep_shut (g : Gr) (p : Ad) (i way : Int) (ho : g.opI i = false) (w : World) (hR : RG w g p) :
    Calls Tryd.prog 51 #[gv g p, .int .i64 i, .int .i64 way] w fun e w' => e = .returned (.tuple #[.int .i64 0, .bool false]) ∧ Below w.heap.size w w' := by
  have cO := refOpen_any g p i (w.alloc (.cells #[.int .i64 g.h, .int .i64 g.w, .slice p.a1 g.B.length p.c1, .slice p.a2 g.R.length p.c2, .slice p.a3 g.D.length p.c3] 24)) (hR.below (below_box w _))
  rw [ho] at cO
  unfold gv at cO
  unfold gv
  clear hR
  go_enter Tryd.func51, Tryd.ntmps51
  go_wp2_with fail
  refine cO.mono ?_
  rintro e w1 ⟨rfl, hb1⟩
  have HB1 : Aside (Below w.heap.size w w1) := (below_box w _).trans (hb1.mono (below_box w _).size)
  clear hb1 cO
  go_wp2
  go_ret2
  exact ⟨rfl, HB1.out⟩

set_option maxRecDepth 20000 in
set_option maxHeartbeats 2000000 in
theorem refStep_open (g : Gr) (p : Ad) (hok : g.ok) (k : Nat) (hk : g.opn k = true) (way : Int) (w : World) (hR : RG w g p) :
    Calls Tryd.prog 51 #[gv g p, .int .i64 k, .int .i64 way] w fun e w' => e = .returned (opt (g.stI k way)) ∧ Below w.heap.size w w' := by
  have hz := (Gr.right_of hok).sz
  obtain ⟨b1, o1, c1, b2, o2, c2, b3, o3, c3, rfl, hA⟩ := hR.open hz
  obtain ⟨hH1, hH2, hH3⟩ := hz.sh
  obtain ⟨hW1, hW2, hW3⟩ := hz.sw
  have hnl := hz.n_le
  have hkn := (Gr.opn_iff.1 hk).1
  have ho : g.opI (k : Int) = true := Gr.opI_iff.2 ⟨hok, k, rfl, hk⟩
  have hBl : (g.B.length : Int) = (g.n : Int) := by rw [hz.bl]
  have hRl : (g.R.length : Int) = (g.n : Int) := by rw [hz.rl]
  have hDl : (g.D.length : Int) = (g.n : Int) := by rw [hz.dl]
  have cO := refOpen_any g ⟨some ⟨b1, o1, none⟩, c1, some ⟨b2, o2, none⟩, c2, some ⟨b3, o3, none⟩, c3⟩ k (w.alloc (.cells #[.int .i64 (g.H : Int), .int .i64 (g.W : Int), .slice (some ⟨b1, o1, none⟩) g.B.length c1, .slice (some ⟨b2, o2, none⟩) g.R.length c2, .slice (some ⟨b3, o3, none⟩) g.D.length c3] 24)) (hR.below (below_box w _))
  rw [ho] at cO
  have HX := Bx.new w g ⟨some ⟨b1, o1, none⟩, c1, some ⟨b2, o2, none⟩, c2, some ⟨b3, o3, none⟩, c3⟩ 24
  have HRA : Aside (∀ W, Below w.heap.size w W → RA W g b1 o1 b2 o2 b3 o3) := fun W h => hA.below h
  have hmlt := Nat.mod_lt k hW1
  have hqlt : k / g.W < g.H := row_lt hkn
  have hdv := int_div k g.W
  have hmd := int_mod k g.W
  have hW0 : ¬ g.W = 0 := by omega
  have HQM : Aside (k = k / g.W * g.W + k % g.W) := by
    show k = _
    have := Nat.div_add_mod k g.W
    rw [Nat.mul_comm] at this
    exact this.symm
  have HRT : Aside (k % g.W < g.W - 1 → k + 1 < g.n) := fun h => right_lt hkn h
  have HDN : Aside (k / g.W < g.H - 1 → k + g.W < g.n) := fun h => down_lt h hW1
  have HUP : Aside (0 < k / g.W → g.W ≤ k) := fun h => (up_div h hW1).1
  have HLF : Aside (0 < k % g.W → 0 < k) := fun h => (pred_mod h hW1).2.2
  have H0 : Aside (g.stI (k : Int) 0 = if k % g.W < g.W - 1 ∧ bt g.R k = false ∧ bt g.B (k + 1) = false then some (k + 1) else none) := by
    show g.stI (k : Int) 0 = _
    unfold Gr.stI; rw [if_pos ⟨ho, by omega, by omega⟩, Int.toNat_natCast]; exact Gr.st0 hk
  have H1 : Aside (g.stI (k : Int) 1 = if k / g.W < g.H - 1 ∧ bt g.D k = false ∧ bt g.B (k + g.W) = false then some (k + g.W) else none) := by
    show g.stI (k : Int) 1 = _
    unfold Gr.stI; rw [if_pos ⟨ho, by omega, by omega⟩, Int.toNat_natCast]; exact Gr.st1 hk
  have H2 : Aside (g.stI (k : Int) 2 = if 0 < k % g.W ∧ bt g.R (k - 1) = false ∧ bt g.B (k - 1) = false then some (k - 1) else none) := by
    show g.stI (k : Int) 2 = _
    unfold Gr.stI; rw [if_pos ⟨ho, by omega, by omega⟩, Int.toNat_natCast]; exact Gr.st2 hk
  have H3 : Aside (g.stI (k : Int) 3 = if 0 < k / g.W ∧ bt g.D (k - g.W) = false ∧ bt g.B (k - g.W) = false then some (k - g.W) else none) := by
    show g.stI (k : Int) 3 = _
    unfold Gr.stI; rw [if_pos ⟨ho, by omega, by omega⟩, Int.toNat_natCast]; exact Gr.st3 hk
  have H4 : Aside (¬ (0 ≤ way ∧ way < 4) → g.stI (k : Int) way = none) := fun h => by
    unfold Gr.stI; rw [if_neg (fun hh => h hh.2)]
  obtain ⟨q, hqe⟩ : ∃ q, k / g.W = q := ⟨_, rfl⟩
  obtain ⟨m, hme⟩ : ∃ m, k % g.W = m := ⟨_, rfl⟩
  rw [hqe] at hdv hqlt HDN HUP H1 H3
  rw [hme] at hmd hmlt HRT HLF H0 H2
  unfold gv at cO
  unfold gv
  dsimp only at cO ⊢
  rw [← hH3, ← hW3] at cO ⊢
  dsimp only at HX
  rw [← hH3, ← hW3] at HX
  have HH3 : Aside ((g.H : Int) = g.h) := hH3
  have HW3 : Aside ((g.W : Int) = g.w) := hW3
  clear hqe hme HQM hz hR hA hok hk ho hH3 hW3
  go_enter Tryd.func51, Tryd.ntmps51
  go_wp2_with fail
  refine cO.mono ?_
  rintro e w1 ⟨rfl, hb1⟩
  have HBe : Aside (Below w.heap.size w w1) := (below_box w _).trans (hb1.mono (below_box w _).size)
  obtain ⟨_, k0, k1, k2, k3, k4⟩ := HX.keep hb1
  rw [← HH3.out] at k0
  rw [← HW3.out] at k1
  dsimp only at k2 k3 k4
  have hRA := HRA.out w1 HBe.out
  clear hb1 cO HX HRA
  go_wp2
  go_quiet (fail)
  by_cases hw0 : way = 0
  · subst hw0
    by_cases hc : m < g.W - 1
    · have hcz : ((m : Int) < (g.W : Int) - 1) := by omega
      have hj := HRT.out hc
      have eX := hRA.e2 k hkn
      have eY := hRA.e1 (k + 1) hj
      have HV := H0.out
      cases hx : bt g.R (k) with
      | true =>
        rw [hx] at eX
        have HN : Aside (g.stI _ _ = none) := HV.trans (if_neg (fun h => by rw [hx] at h; cases h.2.1))
        clear HV hx eY
        go_wp2
        go_ret2
        exact ⟨by rw [HN.out]; rfl, by first | exact below_drewN HBe.out _ | exact below_drewN (below_drewN HBe.out _) _⟩
      | false =>
        rw [hx] at eX
        cases hy : bt g.B (k + 1) with
        | true =>
          rw [hy] at eY
          have HN : Aside (g.stI _ _ = none) := HV.trans (if_neg (fun h => by rw [hy] at h; cases h.2.2))
          clear HV hx hy
          go_wp2
          go_ret2
          exact ⟨by rw [HN.out]; rfl, by first | exact below_drewN HBe.out _ | exact below_drewN (below_drewN HBe.out _) _⟩
        | false =>
          rw [hy] at eY
          have HN : Aside (g.stI _ _ = some (k + 1)) := HV.trans (if_pos ⟨hc, hx, hy⟩)
          clear HV hx hy
          go_wp2
          go_ret2
          exact ⟨by rw [HN.out]; simp [opt], by first | exact below_drewN HBe.out _ | exact below_drewN (below_drewN HBe.out _) _⟩
    · have hcz : ¬ ((m : Int) < (g.W : Int) - 1) := by omega
      have HN : Aside (g.stI _ _ = none) := H0.out.trans (if_neg (fun h => hc h.1))
      go_wp2
      go_ret2
      exact ⟨by rw [HN.out]; rfl, by first | exact below_drewN HBe.out _ | exact below_drewN (below_drewN HBe.out _) _⟩
  · by_cases hw1 : way = 1
    · subst hw1
      by_cases hc : q < g.H - 1
      · have hcz : ((q : Int) < (g.H : Int) - 1) := by omega
        have hj := HDN.out hc
        have eX := hRA.e3 k hkn
        have eY := hRA.e1 (k + g.W) hj
        have HV := H1.out
        cases hx : bt g.D (k) with
        | true =>
          rw [hx] at eX
          have HN : Aside (g.stI _ _ = none) := HV.trans (if_neg (fun h => by rw [hx] at h; cases h.2.1))
          clear HV hx eY
          go_wp2
          go_ret2
          exact ⟨by rw [HN.out]; rfl, by first | exact below_drewN HBe.out _ | exact below_drewN (below_drewN HBe.out _) _⟩
        | false =>
          rw [hx] at eX
          cases hy : bt g.B (k + g.W) with
          | true =>
            rw [hy] at eY
            have HN : Aside (g.stI _ _ = none) := HV.trans (if_neg (fun h => by rw [hy] at h; cases h.2.2))
            clear HV hx hy
            go_wp2
            go_ret2
            exact ⟨by rw [HN.out]; rfl, by first | exact below_drewN HBe.out _ | exact below_drewN (below_drewN HBe.out _) _⟩
          | false =>
            rw [hy] at eY
            have HN : Aside (g.stI _ _ = some (k + g.W)) := HV.trans (if_pos ⟨hc, hx, hy⟩)
            clear HV hx hy
            go_wp2
            go_ret2
            exact ⟨by rw [HN.out]; simp [opt], by first | exact below_drewN HBe.out _ | exact below_drewN (below_drewN HBe.out _) _⟩
      · have hcz : ¬ ((q : Int) < (g.H : Int) - 1) := by omega
        have HN : Aside (g.stI _ _ = none) := H1.out.trans (if_neg (fun h => hc h.1))
        go_wp2
        go_ret2
        exact ⟨by rw [HN.out]; rfl, by first | exact below_drewN HBe.out _ | exact below_drewN (below_drewN HBe.out _) _⟩
    · by_cases hw2 : way = 2
      · subst hw2
        by_cases hc : 0 < m
        · have hcz : ((0 : Int) < (m : Int)) := by omega
          have hj := HLF.out hc
          obtain ⟨k', rfl⟩ : ∃ k', k = k' + 1 := ⟨k - 1, by omega⟩
          have hmd2 : ((k' : Int) + 1) % (g.W : Int) = (m : Int) := by exact_mod_cast hmd
          have hdv2 : ((k' : Int) + 1) / (g.W : Int) = (q : Int) := by exact_mod_cast hdv
          clear hmd hdv
          rw [Nat.add_sub_cancel] at H2
          have eX := hRA.e2 k' (by omega)
          have eY := hRA.e1 k' (by omega)
          have HV := H2.out
          cases hx : bt g.R (k') with
          | true =>
            rw [hx] at eX
            have HN : Aside (g.stI _ _ = none) := HV.trans (if_neg (fun h => by rw [hx] at h; cases h.2.1))
            clear HV hx eY
            go_wp2
            go_ret2
            exact ⟨by rw [HN.out]; rfl, by first | exact below_drewN HBe.out _ | exact below_drewN (below_drewN HBe.out _) _⟩
          | false =>
            rw [hx] at eX
            cases hy : bt g.B (k') with
            | true =>
              rw [hy] at eY
              have HN : Aside (g.stI _ _ = none) := HV.trans (if_neg (fun h => by rw [hy] at h; cases h.2.2))
              clear HV hx hy
              go_wp2
              go_ret2
              exact ⟨by rw [HN.out]; rfl, by first | exact below_drewN HBe.out _ | exact below_drewN (below_drewN HBe.out _) _⟩
            | false =>
              rw [hy] at eY
              have HN : Aside (g.stI _ _ = some (k')) := HV.trans (if_pos ⟨hc, hx, hy⟩)
              clear HV hx hy
              go_wp2
              go_ret2
              exact ⟨by rw [HN.out]; simp [opt], by first | exact below_drewN HBe.out _ | exact below_drewN (below_drewN HBe.out _) _⟩
        · have hcz : ¬ ((0 : Int) < (m : Int)) := by omega
          have HN : Aside (g.stI _ _ = none) := H2.out.trans (if_neg (fun h => hc h.1))
          go_wp2
          go_ret2
          exact ⟨by rw [HN.out]; rfl, by first | exact below_drewN HBe.out _ | exact below_drewN (below_drewN HBe.out _) _⟩
      · by_cases hw3 : way = 3
        · subst hw3
          by_cases hc : 0 < q
          · have hcz : ((0 : Int) < (q : Int)) := by omega
            have hj := HUP.out hc
            obtain ⟨k', rfl⟩ : ∃ k', k = k' + g.W := ⟨k - g.W, by omega⟩
            rw [Nat.add_sub_cancel] at H3
            have eX := hRA.e3 k' (by omega)
            have eY := hRA.e1 k' (by omega)
            have HV := H3.out
            cases hx : bt g.D (k') with
            | true =>
              rw [hx] at eX
              have HN : Aside (g.stI _ _ = none) := HV.trans (if_neg (fun h => by rw [hx] at h; cases h.2.1))
              clear HV hx eY
              go_wp2
              go_ret2
              exact ⟨by rw [HN.out]; rfl, by first | exact below_drewN HBe.out _ | exact below_drewN (below_drewN HBe.out _) _⟩
            | false =>
              rw [hx] at eX
              cases hy : bt g.B (k') with
              | true =>
                rw [hy] at eY
                have HN : Aside (g.stI _ _ = none) := HV.trans (if_neg (fun h => by rw [hy] at h; cases h.2.2))
                clear HV hx hy
                go_wp2
                go_ret2
                exact ⟨by rw [HN.out]; rfl, by first | exact below_drewN HBe.out _ | exact below_drewN (below_drewN HBe.out _) _⟩
              | false =>
                rw [hy] at eY
                have HN : Aside (g.stI _ _ = some (k')) := HV.trans (if_pos ⟨hc, hx, hy⟩)
                clear HV hx hy
                go_wp2
                go_ret2
                exact ⟨by rw [HN.out]; simp [opt], by first | exact below_drewN HBe.out _ | exact below_drewN (below_drewN HBe.out _) _⟩
          · have hcz : ¬ ((0 : Int) < (q : Int)) := by omega
            have HN : Aside (g.stI _ _ = none) := H3.out.trans (if_neg (fun h => hc h.1))
            go_wp2
            go_ret2
            exact ⟨by rw [HN.out]; rfl, by first | exact below_drewN HBe.out _ | exact below_drewN (below_drewN HBe.out _) _⟩
        · have HN : Aside (g.stI (k : Int) way = none) := H4.out (by omega)
          go_wp2
          go_ret2
          exact ⟨by rw [HN.out]; rfl, by first | exact below_drewN HBe.out _ | exact below_drewN (below_drewN HBe.out _) _⟩

theorem refStep_any (g : Gr) (p : Ad) (i way : Int) (w : World) (hR : RG w g p) :
    Calls Tryd.prog 51 #[gv g p, .int .i64 i, .int .i64 way] w fun e w' => e = .returned (opt (g.stI i way)) ∧ Below w.heap.size w w' := by
  cases ho : g.opI i with
  | true =>
    obtain ⟨hok, k, rfl, hk⟩ := Gr.opI_iff.1 ho
    exact refStep_open g p hok k hk way w hR
  | false =>
    have e : g.stI i way = none := by unfold Gr.stI; rw [if_neg (by rw [ho]; simp)]
    rw [e]
    exact refStep_shut g p i way ho w hR
end Go.Proofs.YtkkeoonglcfhnaaDoor.Grd
