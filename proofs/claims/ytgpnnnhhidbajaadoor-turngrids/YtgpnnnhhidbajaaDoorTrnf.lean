/-
  Layer 6: the document's Place, for any numbers.
-/
import Derived.Test.YtgpnnnhhidbajaaDoorTrnd
namespace Go.Proofs.YtgpnnnhhidbajaaDoor.Grd
open Go Go.Lib Go.RowKit

set_option maxHeartbeats 1000000 in
theorem refPlace_any (h w i k : Int) (W : World) :
    Calls Tryd.prog 24 #[.int .i64 h, .int .i64 w, .int .i64 i, .int .i64 k] W fun e W' => e = .returned (.tuple #[.int .i64 (pAns h w i k).1, .int .i64 (pAns h w i k).2]) ∧ Below W.heap.size W W' := by
  unfold pAns
  by_cases hk : 0 ≤ k ∧ k < 8
  · rw [if_neg (fun h => h hk)]
    by_cases hs : sideOk h ∧ sideOk w
    · rw [if_neg (fun h => h hs)]
      obtain ⟨hh, hw⟩ := hs
      obtain ⟨kn, rfl⟩ := Int.eq_ofNat_of_zero_le hk.1
      obtain ⟨hn, rfl⟩ := Int.eq_ofNat_of_zero_le (show 0 ≤ h by have := hh.1; omega)
      obtain ⟨wn, rfl⟩ := Int.eq_ofNat_of_zero_le (show 0 ≤ w by have := hw.1; omega)
      have hh1 : 1 ≤ hn ∧ hn ≤ 16 := ⟨by have := hh.1; omega, by have := hh.2; omega⟩
      have hw1 : 1 ≤ wn ∧ wn ≤ 16 := ⟨by have := hw.1; omega, by have := hw.2; omega⟩
      have hmul : (hn : Int) * (wn : Int) = ((hn * wn : Nat) : Int) := (Int.natCast_mul _ _).symm
      have hml : hn * wn ≤ 256 := Nat.mul_le_mul hh1.2 hw1.2
      rw [hmul]
      by_cases hi0 : 0 ≤ i
      · by_cases hi1 : i < ((hn * wn : Nat) : Int)
        · rw [if_neg (fun h => h ⟨hi0, hi1⟩)]
          obtain ⟨x, rfl⟩ := Int.eq_ofNat_of_zero_le hi0
          simp only [Int.toNat_natCast]
          have hxl : x < hn * wn := by omega
          obtain ⟨hr, hc⟩ := div_in hxl
          have hw0 : ¬ (wn : Int) = 0 := by omega
          have HP : Aside (∀ P : Pl, P = (if 3 < kn then (Pl.mk hn wn (x / wn) (x % wn)).m else Pl.mk hn wn (x / wn) (x % wn)) → (P.qs (kn % 4)).r * (P.qs (kn % 4)).w + (P.qs (kn % 4)).c = plc hn wn x kn) := fun P e => by rw [e]; rfl
          have HI : Aside (∀ P : Pl, P = (if 3 < kn then (Pl.mk hn wn (x / wn) (x % wn)).m else Pl.mk hn wn (x / wn) (x % wn)) → P.In ∧ P.h ≤ 16 ∧ P.w ≤ 16) := fun P e => by
            rw [e]
            by_cases h3 : 3 < kn
            · rw [if_pos h3]; exact ⟨Pl.in_m (P := Pl.mk hn wn (x / wn) (x % wn)) ⟨hr, hc⟩, hh1.2, hw1.2⟩
            · rw [if_neg h3]; exact ⟨⟨hr, hc⟩, hh1.2, hw1.2⟩
          have hdiv : (x : Int) / (wn : Int) = ((x / wn : Nat) : Int) := (Int.natCast_ediv _ _).symm
          have hmod : (x : Int) % (wn : Int) = ((x % wn : Nat) : Int) := (Int.natCast_emod _ _).symm
          generalize x / wn = r0 at *
          generalize x % wn = c0 at *
          generalize plc hn wn x kn = ans at *
          generalize hn * wn = m at *
          have hk4 : (kn : Int) % 4 = ((kn % 4 : Nat) : Int) := by omega
          have hq4 : kn % 4 < 4 := Nat.mod_lt _ (by omega)
          clear hh hw hi1
          by_cases h3 : 3 < kn
          · rw [if_pos h3] at HP HI
            obtain ⟨P, hP⟩ : ∃ P, P = (Pl.mk hn wn r0 c0).m := ⟨_, rfl⟩
            have HQA : Aside ((P.qs (kn % 4)).r * (P.qs (kn % 4)).w + (P.qs (kn % 4)).c = ans) := HP.out P hP
            have HPA : Aside (P.In ∧ P.h ≤ 16 ∧ P.w ≤ 16) := HI.out P hP
            have H0 : Aside (((P.qs 0).h : Int) = hn ∧ ((P.qs 0).w : Int) = wn ∧ ((P.qs 0).r : Int) = r0 ∧ ((P.qs 0).c : Int) = (wn : Int) - 1 - c0) := by
              rw [hP]
              exact ⟨rfl, rfl, rfl, by show _ = _; simp only [Pl.qs, Pl.m]; omega⟩
            clear HP HI hP
            have h3z : (3 : Int) < (kn : Int) := by omega
            go_enter Tryd.func24, Tryd.ntmps24
            go_wp2
            go_big_region
            go_wp2
            try rw [hmod]
            clear hdiv hmod hmul
            generalize decide ((kn : Int) < 0) = d1 at *
            generalize decide (7 < (kn : Int)) = d2 at *
            generalize decide ((hn : Int) < 1) = d3 at *
            generalize decide (16 < (hn : Int)) = d4 at *
            generalize decide ((wn : Int) < 1) = d5 at *
            generalize decide (16 < (wn : Int)) = d6 at *
            generalize decide ((x : Int) < 0) = d7 at *
            generalize decide (m ≤ x) = d8 at *
            generalize (d1 || d2) = d9 at *
            generalize (d3 || d4) = d10 at *
            generalize (d10 || d5) = d11 at *
            generalize (d11 || d6) = d12 at *
            generalize (d7 || d8) = d13 at *
            try generalize decide (3 < (kn : Int)) = d14 at *
            try generalize decide (3 < kn) = d14 at *
            go_loopg [0, 1, 10, 11, 12] 4 (fun g1 hv wv rv cv iv wr => ∃ j : Nat, iv = .int .i64 (j : Int) ∧ j ≤ kn % 4 ∧ kn % 4 - j ≤ g1 ∧ hv = .int .i64 (P.qs j).h ∧ wv = .int .i64 (P.qs j).w ∧ rv = .int .i64 (P.qs j).r ∧ cv = .int .i64 (P.qs j).c ∧ Aside (Below W.heap.size W wr))
            case atStart => exact ⟨0, rfl, Nat.zero_le _, by omega, by rw [H0.out.1], by rw [H0.out.2.1], by rw [H0.out.2.2.1], by rw [H0.out.2.2.2], Below.drew (Below.refl _ _)⟩
            case round =>
              obtain ⟨j, rfl, hj, hg, rfl, rfl, rfl, rfl, HB⟩ := hrel
              have HXI : Aside (P.qs j).In := Pl.in_qs HPA.out.1 j
              obtain ⟨hX1, hX2⟩ := Pl.qs_le HPA.out.2.1 HPA.out.2.2 j
              have hX3 := HXI.out.1
              have hX4 := HXI.out.2
              by_cases hlt : j < kn % 4
              · have hltz : (j : Int) < ((kn % 4 : Nat) : Int) := by omega
                have HN : Aside (((P.qs (j + 1)).h : Int) = (P.qs j).w ∧ ((P.qs (j + 1)).w : Int) = (P.qs j).h ∧ ((P.qs (j + 1)).r : Int) = (P.qs j).c ∧ ((P.qs (j + 1)).c : Int) = ((P.qs j).h : Int) - 1 - (P.qs j).r) := ⟨rfl, rfl, rfl, by show (((P.qs j).h - 1 - (P.qs j).r : Nat) : Int) = _; omega⟩
                generalize kn % 4 = q at *
                go_wp2
                go_roundg (q - (j + 1))
                case measure => omega
                case rel => exact ⟨j + 1, by go_num, by omega, Nat.le_refl _, by rw [HN.out.1], by rw [HN.out.2.1], by rw [HN.out.2.2.1], by rw [HN.out.2.2.2], HB⟩
              · have hltz : ¬ (j : Int) < ((kn % 4 : Nat) : Int) := by omega
                obtain rfl : j = kn % 4 := by omega
                generalize kn % 4 = j at *
                have hml2 : (P.qs j).r * (P.qs j).w ≤ 256 := Nat.le_trans (Nat.mul_le_mul (show (P.qs j).r ≤ 16 by omega) hX2) (by omega)
                have hmul2 : ((P.qs j).r : Int) * ((P.qs j).w : Int) = (((P.qs j).r * (P.qs j).w : Nat) : Int) := (Int.natCast_mul _ _).symm
                have HQ := HQA.out
                generalize (P.qs j).r * (P.qs j).w = m2 at *
                have HQ2 : Aside (((m2 : Nat) : Int) + ((P.qs j).c : Int) = (ans : Int)) := by show _ = _; omega
                clear HQ HQA
                go_wp2
                go_ret2
                refine ⟨?_, HB.out⟩
                rw [← HQ2.out]
                rfl
          · rw [if_neg h3] at HP HI
            obtain ⟨P, hP⟩ : ∃ P, P = Pl.mk hn wn r0 c0 := ⟨_, rfl⟩
            have HQA : Aside ((P.qs (kn % 4)).r * (P.qs (kn % 4)).w + (P.qs (kn % 4)).c = ans) := HP.out P hP
            have HPA : Aside (P.In ∧ P.h ≤ 16 ∧ P.w ≤ 16) := HI.out P hP
            have H0 : Aside (((P.qs 0).h : Int) = hn ∧ ((P.qs 0).w : Int) = wn ∧ ((P.qs 0).r : Int) = r0 ∧ ((P.qs 0).c : Int) = (c0 : Int)) := by
              rw [hP]
              exact ⟨rfl, rfl, rfl, by show _ = _; simp only [Pl.qs]⟩
            clear HP HI hP
            have h3z : ¬ (3 : Int) < (kn : Int) := by omega
            go_enter Tryd.func24, Tryd.ntmps24
            go_wp2
            go_big_region
            go_wp2
            try rw [hmod]
            clear hdiv hmod hmul
            generalize decide ((kn : Int) < 0) = d1 at *
            generalize decide (7 < (kn : Int)) = d2 at *
            generalize decide ((hn : Int) < 1) = d3 at *
            generalize decide (16 < (hn : Int)) = d4 at *
            generalize decide ((wn : Int) < 1) = d5 at *
            generalize decide (16 < (wn : Int)) = d6 at *
            generalize decide ((x : Int) < 0) = d7 at *
            generalize decide (m ≤ x) = d8 at *
            generalize (d1 || d2) = d9 at *
            generalize (d3 || d4) = d10 at *
            generalize (d10 || d5) = d11 at *
            generalize (d11 || d6) = d12 at *
            generalize (d7 || d8) = d13 at *
            try generalize decide (3 < (kn : Int)) = d14 at *
            try generalize decide (3 < kn) = d14 at *
            go_loopg [0, 1, 10, 11, 12] 4 (fun g1 hv wv rv cv iv wr => ∃ j : Nat, iv = .int .i64 (j : Int) ∧ j ≤ kn % 4 ∧ kn % 4 - j ≤ g1 ∧ hv = .int .i64 (P.qs j).h ∧ wv = .int .i64 (P.qs j).w ∧ rv = .int .i64 (P.qs j).r ∧ cv = .int .i64 (P.qs j).c ∧ Aside (Below W.heap.size W wr))
            case atStart => exact ⟨0, rfl, Nat.zero_le _, by omega, by rw [H0.out.1], by rw [H0.out.2.1], by rw [H0.out.2.2.1], by rw [H0.out.2.2.2], Below.drew (Below.refl _ _)⟩
            case round =>
              obtain ⟨j, rfl, hj, hg, rfl, rfl, rfl, rfl, HB⟩ := hrel
              have HXI : Aside (P.qs j).In := Pl.in_qs HPA.out.1 j
              obtain ⟨hX1, hX2⟩ := Pl.qs_le HPA.out.2.1 HPA.out.2.2 j
              have hX3 := HXI.out.1
              have hX4 := HXI.out.2
              by_cases hlt : j < kn % 4
              · have hltz : (j : Int) < ((kn % 4 : Nat) : Int) := by omega
                have HN : Aside (((P.qs (j + 1)).h : Int) = (P.qs j).w ∧ ((P.qs (j + 1)).w : Int) = (P.qs j).h ∧ ((P.qs (j + 1)).r : Int) = (P.qs j).c ∧ ((P.qs (j + 1)).c : Int) = ((P.qs j).h : Int) - 1 - (P.qs j).r) := ⟨rfl, rfl, rfl, by show (((P.qs j).h - 1 - (P.qs j).r : Nat) : Int) = _; omega⟩
                generalize kn % 4 = q at *
                go_wp2
                go_roundg (q - (j + 1))
                case measure => omega
                case rel => exact ⟨j + 1, by go_num, by omega, Nat.le_refl _, by rw [HN.out.1], by rw [HN.out.2.1], by rw [HN.out.2.2.1], by rw [HN.out.2.2.2], HB⟩
              · have hltz : ¬ (j : Int) < ((kn % 4 : Nat) : Int) := by omega
                obtain rfl : j = kn % 4 := by omega
                generalize kn % 4 = j at *
                have hml2 : (P.qs j).r * (P.qs j).w ≤ 256 := Nat.le_trans (Nat.mul_le_mul (show (P.qs j).r ≤ 16 by omega) hX2) (by omega)
                have hmul2 : ((P.qs j).r : Int) * ((P.qs j).w : Int) = (((P.qs j).r * (P.qs j).w : Nat) : Int) := (Int.natCast_mul _ _).symm
                have HQ := HQA.out
                generalize (P.qs j).r * (P.qs j).w = m2 at *
                have HQ2 : Aside (((m2 : Nat) : Int) + ((P.qs j).c : Int) = (ans : Int)) := by show _ = _; omega
                clear HQ HQA
                go_wp2
                go_ret2
                refine ⟨?_, HB.out⟩
                rw [← HQ2.out]
                rfl
        · rw [if_pos (fun h => hi1 h.2)]
          obtain ⟨x, rfl⟩ := Int.eq_ofNat_of_zero_le hi0
          have hi2 : hn * wn ≤ x := by omega
          generalize hn * wn = m at *
          clear hh hw hi1
          go_enter Tryd.func24, Tryd.ntmps24
          go_wp2
          go_ret2
          exact ⟨rfl, Below.refl _ _⟩
      · rw [if_pos (fun h => hi0 h.1)]
        have hi2 : i < 0 := by omega
        clear hh hw hi0
        go_enter Tryd.func24, Tryd.ntmps24
        go_wp2
        go_ret2
        exact ⟨rfl, Below.refl _ _⟩
    · rw [if_pos hs]
      unfold sideOk at hs
      by_cases q1 : h < 1
      · go_enter Tryd.func24, Tryd.ntmps24
        go_wp2
        go_ret2
        exact ⟨rfl, Below.refl _ _⟩
      · by_cases q2 : 16 < h
        · go_enter Tryd.func24, Tryd.ntmps24
          go_wp2
          go_ret2
          exact ⟨rfl, Below.refl _ _⟩
        · by_cases q3 : w < 1
          · go_enter Tryd.func24, Tryd.ntmps24
            go_wp2
            go_ret2
            exact ⟨rfl, Below.refl _ _⟩
          · have q4 : 16 < w := by omega
            go_enter Tryd.func24, Tryd.ntmps24
            go_wp2
            go_ret2
            exact ⟨rfl, Below.refl _ _⟩
  · rw [if_pos hk]
    by_cases q1 : k < 0
    · go_enter Tryd.func24, Tryd.ntmps24
      go_wp2
      go_ret2
      exact ⟨rfl, Below.refl _ _⟩
    · have q2 : 7 < k := by omega
      go_enter Tryd.func24, Tryd.ntmps24
      go_wp2
      go_ret2
      exact ⟨rfl, Below.refl _ _⟩
end Go.Proofs.YtgpnnnhhidbajaaDoor.Grd
