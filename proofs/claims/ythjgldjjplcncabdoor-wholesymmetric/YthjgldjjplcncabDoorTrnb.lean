/-
  Layer 6: moved (a cell's place behind a turn), for right arguments.
-/
import Derived.Test.YthjgldjjplcncabDoorTrna
namespace Go.Proofs.YthjgldjjplcncabDoor.Grd
open Go Go.Lib Go.RowKit

theorem Pl.qs_le {P : Pl} (h1 : P.h ≤ 16) (h2 : P.w ≤ 16) (n : Nat) : (P.qs n).h ≤ 16 ∧ (P.qs n).w ≤ 16 := by
  obtain ⟨e1, e2⟩ := Pl.qs_hw P n
  rw [e1, e2]
  by_cases e : n % 2 = 1
  · rw [if_pos e, if_pos e]; exact ⟨h2, h1⟩
  · rw [if_neg e, if_neg e]; exact ⟨h1, h2⟩

set_option maxHeartbeats 1000000 in
theorem moved_any (h w i k : Nat) (h1 : 1 ≤ h ∧ h ≤ 16) (w1 : 1 ≤ w ∧ w ≤ 16) (hi : i < h * w) (hk : k < 8) (W : World) :
    Calls Tryd.prog 33 #[.agg #[.int .i64 h, .int .i64 w], .int .i64 i, .int .i64 k] W fun e W' => e = .returned (.int .i64 (plc h w i k : Nat)) ∧ Below W.heap.size W W' := by
  have hw0 : ¬ (w : Int) = 0 := by omega
  obtain ⟨hr, hc⟩ := div_in hi
  have hi2 : i < 257 := Nat.lt_of_lt_of_le hi (Nat.le_trans (Nat.mul_le_mul h1.2 w1.2) (by omega))
  have HP : Aside (∀ P : Pl, P = (if 3 < k then (Pl.mk h w (i / w) (i % w)).m else Pl.mk h w (i / w) (i % w)) → (P.qs (k % 4)).r * (P.qs (k % 4)).w + (P.qs (k % 4)).c = plc h w i k) := fun P e => by rw [e]; rfl
  have HI : Aside (∀ P : Pl, P = (if 3 < k then (Pl.mk h w (i / w) (i % w)).m else Pl.mk h w (i / w) (i % w)) → P.In ∧ P.h ≤ 16 ∧ P.w ≤ 16) := fun P e => by
    rw [e]
    by_cases h3 : 3 < k
    · rw [if_pos h3]; exact ⟨Pl.in_m (P := Pl.mk h w (i / w) (i % w)) ⟨hr, hc⟩, h1.2, w1.2⟩
    · rw [if_neg h3]; exact ⟨⟨hr, hc⟩, h1.2, w1.2⟩
  have hdiv : (i : Int) / (w : Int) = ((i / w : Nat) : Int) := (Int.natCast_ediv _ _).symm
  have hmod : (i : Int) % (w : Int) = ((i % w : Nat) : Int) := (Int.natCast_emod _ _).symm
  generalize i / w = r0 at *
  generalize i % w = c0 at *
  generalize plc h w i k = ans at *
  have hk4 : (k : Int) % 4 = ((k % 4 : Nat) : Int) := by omega
  have cM := fun W => isMirrored_any (k : Int) W
  have hq4 : k % 4 < 4 := Nat.mod_lt _ (by omega)
  by_cases h3 : 3 < k
  · simp only [decide_eq_true (show (4 : Int) ≤ (k : Int) by omega)] at cM
    rw [if_pos h3] at HP HI
    obtain ⟨P, hP⟩ : ∃ P, P = (Pl.mk h w r0 c0).m := ⟨_, rfl⟩
    have HQA : Aside (_ = ans) := HP.out P hP
    have HPA : Aside (P.In ∧ P.h ≤ 16 ∧ P.w ≤ 16) := HI.out P hP
    clear HP HI
    generalize k % 4 = q at *
    go_enter Tryd.func33, Tryd.ntmps33
    go_wp2
    go_big_region
    go_wp2_with fail
    refine (cM _).mono ?_
    rintro e W0 ⟨rfl, hW0⟩
    have S1 : Two W0 W.heap.size 80 (.int .i64 h) (.int .i64 w) := ⟨by rw [hW0]; exact heap_alloc2_old W _ _⟩
    have S2 : Two W0 (W.heap.size + 1) 90 (.int .i64 r0) (.int .i64 c0) := ⟨by rw [hW0]; exact heap_alloc2_new W _ _⟩
    have B0 : Below W.heap.size W W0 := by rw [hW0]; exact Below.drew ((below_one W _).alloc (below_one W _).size _)
    clear hW0 cM
    have k0 := S1.c0
    have k1 := S1.c1
    have m0 := S2.c0
    have m1 := S2.c1
    have cR := mirror_any r0 c0 h w hc (by omega) W0
    go_wp2_with fail
    refine cR.mono ?_
    rintro e W1 ⟨rfl, hb1⟩
    have T1 := S1.keep hb1
    have T2 := S2.keep hb1
    have B1 : Below W.heap.size W W1 := B0.trans (hb1.mono B0.size)
    have f0 := T2.fr 0
    have f1 := T2.fr 1
    have H1 : Aside (Two ((W1.setCell ⟨W.heap.size + 1, 0, none⟩ (.int .i64 r0)).setCell ⟨W.heap.size + 1, 1, none⟩ (.int .i64 ((w - 1 - c0 : Nat) : Int))) W.heap.size 80 (.int .i64 (P.qs 0).h) (.int .i64 (P.qs 0).w) ∧ Two ((W1.setCell ⟨W.heap.size + 1, 0, none⟩ (.int .i64 r0)).setCell ⟨W.heap.size + 1, 1, none⟩ (.int .i64 ((w - 1 - c0 : Nat) : Int))) (W.heap.size + 1) 90 (.int .i64 (P.qs 0).r) (.int .i64 (P.qs 0).c) ∧ Below W.heap.size W ((W1.setCell ⟨W.heap.size + 1, 0, none⟩ (.int .i64 r0)).setCell ⟨W.heap.size + 1, 1, none⟩ (.int .i64 ((w - 1 - c0 : Nat) : Int)))) := by
      rw [hP]
      exact ⟨(T1.other (by omega)).other (by omega), (T2.set0 _).set1 _, Below.put (Below.put B1 (by omega) B1.size) (by omega) (by simpa using B1.size)⟩
    clear k0 k1 m0 m1
    have m0 := T2.c0
    have m1 := T2.c1
    clear S1 S2 T1 T2 B0 B1 hb1 cR hP
    go_wp2
    rw [hk4]
    clear hk4
    go_loopg [24] 4 (fun g1 iv wr => ∃ j : Nat, iv = .int .i64 (j : Int) ∧ j ≤ q ∧ q - j ≤ g1 ∧ Aside (Two wr W.heap.size 80 (.int .i64 (P.qs j).h) (.int .i64 (P.qs j).w) ∧ Two wr (W.heap.size + 1) 90 (.int .i64 (P.qs j).r) (.int .i64 (P.qs j).c) ∧ Below W.heap.size W wr))
    case atStart => exact ⟨0, rfl, Nat.zero_le _, by omega, H1⟩
    case round =>
      clear H1
      obtain ⟨j, rfl, hj, hg, H1⟩ := hrel
      obtain ⟨T1, T2, HB⟩ := H1.out
      have HBA : Aside (Below W.heap.size W wr) := HB
      have HXI : Aside (P.qs j).In := Pl.in_qs HPA.out.1 j
      obtain ⟨hX1, hX2⟩ := Pl.qs_le HPA.out.2.1 HPA.out.2.2 j
      have hX3 := HXI.out.1
      have hX4 := HXI.out.2
      have k0 := T1.c0
      have k1 := T1.c1
      have m0 := T2.c0
      have m1 := T2.c1
      clear HB
      by_cases hlt : j < q
      · have hltz : (j : Int) < (q : Int) := by omega
        have cQ := quarter_any (P.qs j).r (P.qs j).c (P.qs j).h (P.qs j).w hX3 (by omega) wr
        go_wp2_with fail
        refine cQ.mono ?_
        rintro e w2 ⟨rfl, hb2⟩
        have S1 := T1.keep hb2
        have S2 := T2.keep hb2
        have HB2 : Below W.heap.size W w2 := HBA.out.trans (hb2.mono HBA.out.size)
        have f0 := S1.fr 0
        have f1 := S1.fr 1
        have g0 := S2.fr 0
        have g1 := S2.fr 1
        have T5 : Aside (Two ((((w2.setCell ⟨W.heap.size + 1, 0, none⟩ (.int .i64 (P.qs j).c)).setCell ⟨W.heap.size + 1, 1, none⟩ (.int .i64 (((P.qs j).h - 1 - (P.qs j).r : Nat) : Int))).setCell ⟨W.heap.size, 0, none⟩ (.int .i64 (P.qs j).w)).setCell ⟨W.heap.size, 1, none⟩ (.int .i64 (P.qs j).h)) W.heap.size 80 (.int .i64 (P.qs (j + 1)).h) (.int .i64 (P.qs (j + 1)).w) ∧ Two ((((w2.setCell ⟨W.heap.size + 1, 0, none⟩ (.int .i64 (P.qs j).c)).setCell ⟨W.heap.size + 1, 1, none⟩ (.int .i64 (((P.qs j).h - 1 - (P.qs j).r : Nat) : Int))).setCell ⟨W.heap.size, 0, none⟩ (.int .i64 (P.qs j).w)).setCell ⟨W.heap.size, 1, none⟩ (.int .i64 (P.qs j).h)) (W.heap.size + 1) 90 (.int .i64 (P.qs (j + 1)).r) (.int .i64 (P.qs (j + 1)).c) ∧ Below W.heap.size W ((((w2.setCell ⟨W.heap.size + 1, 0, none⟩ (.int .i64 (P.qs j).c)).setCell ⟨W.heap.size + 1, 1, none⟩ (.int .i64 (((P.qs j).h - 1 - (P.qs j).r : Nat) : Int))).setCell ⟨W.heap.size, 0, none⟩ (.int .i64 (P.qs j).w)).setCell ⟨W.heap.size, 1, none⟩ (.int .i64 (P.qs j).h))) :=
          ⟨((((S1.other (by omega)).other (by omega)).set0 _).set1 _), ((((S2.set0 _).set1 _).other (by omega)).other (by omega)), Below.put (Below.put (Below.put (Below.put HB2 (by omega) HB2.size) (by omega) (by simpa using HB2.size)) (by omega) (by simpa using HB2.size)) (by omega) (by simpa using HB2.size)⟩
        clear k0 k1 m0 m1
        have k0 := S1.c0
        have k1 := S1.c1
        have m0 := S2.c0
        have m1 := S2.c1
        clear cQ hb2 T1 T2 S1 S2 HB2
        go_wp2
        go_roundg (q - (j + 1))
        case measure => omega
        case rel => exact ⟨j + 1, by go_num, by omega, Nat.le_refl _, T5⟩
      · have hltz : ¬ (j : Int) < (q : Int) := by omega
        obtain rfl : j = q := by omega
        have hml : (P.qs j).r * (P.qs j).w ≤ 256 := Nat.le_trans (Nat.mul_le_mul (show (P.qs j).r ≤ 16 by omega) hX2) (by omega)
        have hmul : ((P.qs j).r : Int) * ((P.qs j).w : Int) = (((P.qs j).r * (P.qs j).w : Nat) : Int) := (Int.natCast_mul _ _).symm
        have HQ := HQA.out
        generalize (P.qs j).r * (P.qs j).w = m at *
        have HQ2 : Aside (((m : Nat) : Int) + ((P.qs j).c : Int) = (ans : Int)) := by show _ = _; omega
        clear T1 T2 HQ HQA
        go_wp2
        go_ret
        refine ⟨?_, HBA.out⟩
        rw [← HQ2.out]
        rfl
  · simp only [decide_eq_false (show ¬ (4 : Int) ≤ (k : Int) by omega)] at cM
    rw [if_neg h3] at HP HI
    obtain ⟨P, hP⟩ : ∃ P, P = Pl.mk h w r0 c0 := ⟨_, rfl⟩
    have HQA : Aside (_ = ans) := HP.out P hP
    have HPA : Aside (P.In ∧ P.h ≤ 16 ∧ P.w ≤ 16) := HI.out P hP
    clear HP HI
    generalize k % 4 = q at *
    go_enter Tryd.func33, Tryd.ntmps33
    go_wp2
    go_big_region
    go_wp2_with fail
    refine (cM _).mono ?_
    rintro e W0 ⟨rfl, hW0⟩
    have S1 : Two W0 W.heap.size 80 (.int .i64 h) (.int .i64 w) := ⟨by rw [hW0]; exact heap_alloc2_old W _ _⟩
    have S2 : Two W0 (W.heap.size + 1) 90 (.int .i64 r0) (.int .i64 c0) := ⟨by rw [hW0]; exact heap_alloc2_new W _ _⟩
    have B0 : Below W.heap.size W W0 := by rw [hW0]; exact Below.drew ((below_one W _).alloc (below_one W _).size _)
    clear hW0 cM
    have H1 : Aside (Two W0 W.heap.size 80 (.int .i64 (P.qs 0).h) (.int .i64 (P.qs 0).w) ∧ Two W0 (W.heap.size + 1) 90 (.int .i64 (P.qs 0).r) (.int .i64 (P.qs 0).c) ∧ Below W.heap.size W W0) := by
      rw [hP]
      exact ⟨S1, S2, B0⟩
    clear S1 S2 B0 hP
    go_wp2
    rw [hk4]
    clear hk4
    go_loopg [24] 4 (fun g1 iv wr => ∃ j : Nat, iv = .int .i64 (j : Int) ∧ j ≤ q ∧ q - j ≤ g1 ∧ Aside (Two wr W.heap.size 80 (.int .i64 (P.qs j).h) (.int .i64 (P.qs j).w) ∧ Two wr (W.heap.size + 1) 90 (.int .i64 (P.qs j).r) (.int .i64 (P.qs j).c) ∧ Below W.heap.size W wr))
    case atStart => exact ⟨0, rfl, Nat.zero_le _, by omega, H1⟩
    case round =>
      clear H1
      obtain ⟨j, rfl, hj, hg, H1⟩ := hrel
      obtain ⟨T1, T2, HB⟩ := H1.out
      have HBA : Aside (Below W.heap.size W wr) := HB
      have HXI : Aside (P.qs j).In := Pl.in_qs HPA.out.1 j
      obtain ⟨hX1, hX2⟩ := Pl.qs_le HPA.out.2.1 HPA.out.2.2 j
      have hX3 := HXI.out.1
      have hX4 := HXI.out.2
      have k0 := T1.c0
      have k1 := T1.c1
      have m0 := T2.c0
      have m1 := T2.c1
      clear HB
      by_cases hlt : j < q
      · have hltz : (j : Int) < (q : Int) := by omega
        have cQ := quarter_any (P.qs j).r (P.qs j).c (P.qs j).h (P.qs j).w hX3 (by omega) wr
        go_wp2_with fail
        refine cQ.mono ?_
        rintro e w2 ⟨rfl, hb2⟩
        have S1 := T1.keep hb2
        have S2 := T2.keep hb2
        have HB2 : Below W.heap.size W w2 := HBA.out.trans (hb2.mono HBA.out.size)
        have f0 := S1.fr 0
        have f1 := S1.fr 1
        have g0 := S2.fr 0
        have g1 := S2.fr 1
        have T5 : Aside (Two ((((w2.setCell ⟨W.heap.size + 1, 0, none⟩ (.int .i64 (P.qs j).c)).setCell ⟨W.heap.size + 1, 1, none⟩ (.int .i64 (((P.qs j).h - 1 - (P.qs j).r : Nat) : Int))).setCell ⟨W.heap.size, 0, none⟩ (.int .i64 (P.qs j).w)).setCell ⟨W.heap.size, 1, none⟩ (.int .i64 (P.qs j).h)) W.heap.size 80 (.int .i64 (P.qs (j + 1)).h) (.int .i64 (P.qs (j + 1)).w) ∧ Two ((((w2.setCell ⟨W.heap.size + 1, 0, none⟩ (.int .i64 (P.qs j).c)).setCell ⟨W.heap.size + 1, 1, none⟩ (.int .i64 (((P.qs j).h - 1 - (P.qs j).r : Nat) : Int))).setCell ⟨W.heap.size, 0, none⟩ (.int .i64 (P.qs j).w)).setCell ⟨W.heap.size, 1, none⟩ (.int .i64 (P.qs j).h)) (W.heap.size + 1) 90 (.int .i64 (P.qs (j + 1)).r) (.int .i64 (P.qs (j + 1)).c) ∧ Below W.heap.size W ((((w2.setCell ⟨W.heap.size + 1, 0, none⟩ (.int .i64 (P.qs j).c)).setCell ⟨W.heap.size + 1, 1, none⟩ (.int .i64 (((P.qs j).h - 1 - (P.qs j).r : Nat) : Int))).setCell ⟨W.heap.size, 0, none⟩ (.int .i64 (P.qs j).w)).setCell ⟨W.heap.size, 1, none⟩ (.int .i64 (P.qs j).h))) :=
          ⟨((((S1.other (by omega)).other (by omega)).set0 _).set1 _), ((((S2.set0 _).set1 _).other (by omega)).other (by omega)), Below.put (Below.put (Below.put (Below.put HB2 (by omega) HB2.size) (by omega) (by simpa using HB2.size)) (by omega) (by simpa using HB2.size)) (by omega) (by simpa using HB2.size)⟩
        clear k0 k1 m0 m1
        have k0 := S1.c0
        have k1 := S1.c1
        have m0 := S2.c0
        have m1 := S2.c1
        clear cQ hb2 T1 T2 S1 S2 HB2
        go_wp2
        go_roundg (q - (j + 1))
        case measure => omega
        case rel => exact ⟨j + 1, by go_num, by omega, Nat.le_refl _, T5⟩
      · have hltz : ¬ (j : Int) < (q : Int) := by omega
        obtain rfl : j = q := by omega
        have hml : (P.qs j).r * (P.qs j).w ≤ 256 := Nat.le_trans (Nat.mul_le_mul (show (P.qs j).r ≤ 16 by omega) hX2) (by omega)
        have hmul : ((P.qs j).r : Int) * ((P.qs j).w : Int) = (((P.qs j).r * (P.qs j).w : Nat) : Int) := (Int.natCast_mul _ _).symm
        have HQ := HQA.out
        generalize (P.qs j).r * (P.qs j).w = m at *
        have HQ2 : Aside (((m : Nat) : Int) + ((P.qs j).c : Int) = (ans : Int)) := by show _ = _; omega
        clear T1 T2 HQ HQA
        go_wp2
        go_ret
        refine ⟨?_, HBA.out⟩
        rw [← HQ2.out]
        rfl
end Go.Proofs.YthjgldjjplcncabDoor.Grd
