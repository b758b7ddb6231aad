/-
  The program's Check of a grid whose sides and sizes are right; Open, Count, Step, Near.
-/
import Derived.Test.YthjgldjjplcncabDoorGrdd
namespace Go.Proofs.YthjgldjjplcncabDoor.Grd
open Go Go.Lib Go.RowKit

/-- What Check of a grid whose sides and sizes are right answers. -/
theorem Gr.chk_two {g : Gr} (h : g.sides) (h2 : g.sizes) : (g.barred ∧ g.chk = 52) ∨ (¬ g.barred ∧ g.chk = 0) := by
  by_cases hb : g.barred
  · exact .inl ⟨hb, Gr.chk_bar h h2 hb⟩
  · exact .inr ⟨hb, Gr.chk_ok h h2 hb⟩

set_option maxHeartbeats 2000000 in
theorem check_loop (g : Gr) (p : Ad) (w : World) (hw : Wy w) (hR : RG w g p) (h : g.sides) (h' : g.sizes) :
    Calls Tryd.prog 16 #[gv g p] w fun e w' => e = .returned (.int .i64 (g.chk : Nat)) ∧ Below w.heap.size w w' := by
  have hz := Sz.of h h'
  obtain ⟨b1, o1, c1, b2, o2, c2, b3, o3, c3, rfl, hA⟩ := hR.open hz
  have HA : Aside (∀ W, Below w.heap.size w W → RA W g b1 o1 b2 o2 b3 o3) := fun W hb => hA.below hb
  have cS := fun W => isSide_any g.h W
  have cT := fun W => isSide_any g.w W
  simp only [decide_eq_true h.1] at cS
  simp only [decide_eq_true h.2] at cT
  have hnl := hz.n_le.2
  have hmul : g.h * g.w = (g.n : Int) := by rw [← hz.sh.2.2, ← hz.sw.2.2]; exact (Int.natCast_mul _ _).symm
  have hz1 : (g.B.length : Int) = (g.n : Int) := by rw [hz.bl]
  have hz2 : (g.R.length : Int) = (g.n : Int) := by rw [hz.rl]
  have hz3 : (g.D.length : Int) = (g.n : Int) := by rw [hz.dl]
  have HH : Aside (∀ W k way, k < g.n → way < 4 → Below w.heap.size w W → Calls Tryd.prog 35 #[.agg #[.int .i64 g.h, .int .i64 g.w, .slice (some ⟨b1, o1, none⟩) g.B.length c1, .slice (some ⟨b2, o2, none⟩) g.R.length c2, .slice (some ⟨b3, o3, none⟩) g.D.length c3], .int .i64 (k : Nat), .int .i64 (way : Nat)] W fun e w' => e = .returned (.bool (g.bes k way).isSome) ∧ Below W.heap.size W w') :=
    fun W k way hk hway hb => hasBeside_any g ⟨some ⟨b1, o1, none⟩, c1, some ⟨b2, o2, none⟩, c2, some ⟨b3, o3, none⟩, c3⟩ hz k way hk hway W (hw.below hw.size hb) (hR.b.below hb)
  have HZ : Aside (Sz g) := hz
  have HC : Aside ((g.barred ∧ g.chk = 52) ∨ (¬ g.barred ∧ g.chk = 0)) := Gr.chk_two h h'
  unfold gv
  dsimp only
  go_enter Tryd.func16, Tryd.ntmps16
  go_wp2_with fail
  refine (cS _).mono ?_
  rintro e w1 ⟨rfl, hw1⟩
  obtain rfl := hw1.symm
  clear hw1
  go_wp2_with fail
  refine (cT _).mono ?_
  rintro e w2 ⟨rfl, hw2⟩
  obtain rfl := hw2.symm
  clear hw2 cS cT hz h h' hR hw hA
  go_wp2
  obtain ⟨w1, hw1⟩ : ∃ w1, w1 = w.alloc (.cells #[.int .i64 g.h, .int .i64 g.w, .slice (some ⟨b1, o1, none⟩) g.B.length c1, .slice (some ⟨b2, o2, none⟩) g.R.length c2, .slice (some ⟨b3, o3, none⟩) g.D.length c3] 27) := ⟨_, rfl⟩
  have HX : Aside (Bx w1 w.heap.size g ⟨some ⟨b1, o1, none⟩, c1, some ⟨b2, o2, none⟩, c2, some ⟨b3, o3, none⟩, c3⟩) := by subst hw1; exact Bx.new w g ⟨some ⟨b1, o1, none⟩, c1, some ⟨b2, o2, none⟩, c2, some ⟨b3, o3, none⟩, c3⟩ _
  have HB1 : Aside (Below w.heap.size w w1) := by subst hw1; exact below_box w _
  rw [← hw1]
  clear hw1
  go_loopg [40] g.n (fun g1 iv wr => ∃ k : Nat, iv = .int .i64 (k : Int) ∧ k ≤ g.n ∧ g.n - k ≤ g1 ∧ Aside (∀ j, j < k → ¬ g.badR j ∧ ¬ g.badD j) ∧ Aside (Below w1.heap.size w1 wr))
  case atStart => exact ⟨0, rfl, Nat.zero_le _, Nat.le_refl _, fun j hj => absurd hj (Nat.not_lt_zero j), Below.refl _ _⟩
  case round =>
    obtain ⟨k, rfl, hk, hg, HD, HBk⟩ := hrel
    have HBw : Aside (Below w.heap.size w wr) := HB1.out.trans (HBk.out.mono HB1.out.size)
    by_cases hlt : k < g.n
    · have hltz : (k : Int) < (g.n : Int) := by omega
      obtain ⟨_, k0, k1, k2, k3, k4⟩ := HX.out.keep HBk.out
      dsimp only at k2 k3 k4
      have hRk := HA.out wr HBw.out
      have eR := hRk.e2 k hlt
      have eD := hRk.e3 k hlt
      have hb2 := hRk.l2
      have hb3 := hRk.l3
      have c0 := HH.out wr k 0 hlt (by decide) HBw.out
      have HI0 : Aside (g.badR k ↔ bt g.R k = true ∧ g.bes k 0 = none) := Gr.badR_iff HZ.out.sw.1
      have HI1 : Aside (g.badD k ↔ bt g.D k = true ∧ g.bes k 1 = none) := Gr.badD_iff hlt
      have HNR : Aside ((bt g.R k = false ∨ (g.bes k 0).isSome = true) → ¬ g.badR k) := fun h hb => by
        have := HI0.out.1 hb
        rcases h with h | h
        · rw [h] at this; cases this.1
        · rw [this.2] at h; cases h
      have HND : Aside ((bt g.D k = false ∨ (g.bes k 1).isSome = true) → ¬ g.badD k) := fun h hb => by
        have := HI1.out.1 hb
        rcases h with h | h
        · rw [h] at this; cases this.1
        · rw [this.2] at h; cases h
      have HYR : Aside (bt g.R k = true → (g.bes k 0).isSome = false → g.chk = 52) := fun h h2 => by
        rcases HC.out with ⟨_, h⟩ | ⟨hn, _⟩
        · exact h
        · exact absurd ⟨k, hlt, .inl (HI0.out.2 ⟨h, by simpa using h2⟩)⟩ hn
      have HYD : Aside (bt g.D k = true → (g.bes k 1).isSome = false → g.chk = 52) := fun h h2 => by
        rcases HC.out with ⟨_, h⟩ | ⟨hn, _⟩
        · exact h
        · exact absurd ⟨k, hlt, .inr (HI1.out.2 ⟨h, by simpa using h2⟩)⟩ hn
      have HSN : Aside (¬ g.badR k → ¬ g.badD k → ∀ j, j < k + 1 → ¬ g.badR j ∧ ¬ g.badD j) := fun h1 h2 j hj => by
        by_cases e : j = k
        · subst e; exact ⟨h1, h2⟩
        · exact HD.out j (by omega)
      clear hRk HI0 HI1 HD
      generalize bt g.R k = xr at *
      generalize bt g.D k = xd at *
      have hm1 : g.n - (k + 1) < g.n - k := by omega
      cases xr with
      | false =>
        clear c0
        cases xd with
        | false =>
          go_wp2
          go_roundg (g.n - (k + 1))
          case measure => omega
          case rel => exact ⟨k + 1, by go_num, by omega, Nat.le_refl _, HSN.out (HNR.out (.inl (by simp))) (HND.out (.inl (by simp))), HBk.out⟩
        | true =>
          have c1 := HH.out wr k 1 hlt (by decide) (HB1.out.trans ((HBk.out).mono HB1.out.size))
          generalize hs1 : (g.bes k 1).isSome = s1 at c1
          go_wp2_with fail
          refine c1.mono ?_
          rintro e wd ⟨rfl, hbd⟩
          clear c1
          cases s1 with
          | false =>
            have HCC : Aside (g.chk = 52) := HYD.out (by simp) hs1
            go_wp2
            go_ret
            exact ⟨by rw [HCC.out]; rfl, HB1.out.trans (((HBk.out).trans (hbd.mono (HBk.out).size)).mono HB1.out.size)⟩
          | true =>
            go_wp2
            go_roundg (g.n - (k + 1))
            case measure => omega
            case rel => exact ⟨k + 1, by go_num, by omega, Nat.le_refl _, HSN.out (HNR.out (.inl (by simp))) (HND.out (.inr hs1)), (HBk.out).trans (hbd.mono (HBk.out).size)⟩
      | true =>
        generalize hs0 : (g.bes k 0).isSome = s0 at c0
        go_wp2_with fail
        refine c0.mono ?_
        rintro e wc ⟨rfl, hbc⟩
        clear c0
        have HBc : Aside (Below w1.heap.size w1 wc) := HBk.out.trans (hbc.mono HBk.out.size)
        cases s0 with
        | false =>
          have HCC : Aside (g.chk = 52) := HYR.out (by simp) hs0
          go_wp2
          go_ret
          exact ⟨by rw [HCC.out]; rfl, HB1.out.trans (HBc.out.mono HB1.out.size)⟩
        | true =>
          obtain ⟨_, k0, k1, k2, k3, k4⟩ := HX.out.keep HBc.out
          dsimp only at k2 k3 k4
          have eD := (hbc.cell (p := ⟨b3, o3 + k, none⟩) hb3).trans eD
          clear hbc
          cases xd with
          | false =>
            go_wp2
            go_roundg (g.n - (k + 1))
            case measure => omega
            case rel => exact ⟨k + 1, by go_num, by omega, Nat.le_refl _, HSN.out (HNR.out (.inr hs0)) (HND.out (.inl (by simp))), HBc.out⟩
          | true =>
            have c1 := HH.out wc k 1 hlt (by decide) (HB1.out.trans ((HBc.out).mono HB1.out.size))
            generalize hs1 : (g.bes k 1).isSome = s1 at c1
            go_wp2_with fail
            refine c1.mono ?_
            rintro e wd ⟨rfl, hbd⟩
            clear c1
            cases s1 with
            | false =>
              have HCC : Aside (g.chk = 52) := HYD.out (by simp) hs1
              go_wp2
              go_ret
              exact ⟨by rw [HCC.out]; rfl, HB1.out.trans (((HBc.out).trans (hbd.mono (HBc.out).size)).mono HB1.out.size)⟩
            | true =>
              go_wp2
              go_roundg (g.n - (k + 1))
              case measure => omega
              case rel => exact ⟨k + 1, by go_num, by omega, Nat.le_refl _, HSN.out (HNR.out (.inr hs0)) (HND.out (.inr hs1)), (HBc.out).trans (hbd.mono (HBc.out).size)⟩
    · have hltz : ¬ (k : Int) < (g.n : Int) := by omega
      have HCC : Aside (g.chk = 0) := by
        show g.chk = 0
        rcases HC.out with ⟨⟨i, hi, hbad⟩, _⟩ | ⟨_, h⟩
        · have := HD.out i (by omega)
          rcases hbad with h | h
          · exact absurd h this.1
          · exact absurd h this.2
        · exact h
      go_wp2
      go_ret
      exact ⟨by rw [HCC.out]; rfl, HBw.out⟩
end Go.Proofs.YthjgldjjplcncabDoor.Grd
