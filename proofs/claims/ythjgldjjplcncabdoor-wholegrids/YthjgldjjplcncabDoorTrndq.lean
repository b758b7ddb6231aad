/-
  Layer 6: Place, for any numbers.
-/
import Derived.Test.YthjgldjjplcncabDoorGtk
import Derived.Deep.RegionWith
namespace Go.Proofs.YthjgldjjplcncabDoor.Grd
open Go Go.Lib Go.RowKit

/-- Place's answer for any numbers. -/
def pAns (h w i k : Int) : Int × Int :=
  if ¬ (0 ≤ k ∧ k < 8) then (0, 60) else if ¬ (sideOk h ∧ sideOk w) then (0, 50) else if ¬ (0 ≤ i ∧ i < h * w) then (0, 51) else ((plc h.toNat w.toNat i.toNat k.toNat : Nat), 0)

set_option maxHeartbeats 1000000 in
theorem Place_any (h w i k : Int) (W : World) :
    Calls Tryd.prog 15 #[.int .i64 h, .int .i64 w, .int .i64 i, .int .i64 k] W fun e W' => e = .returned (.tuple #[.int .i64 (pAns h w i k).1, .int .i64 (pAns h w i k).2]) ∧ Below W.heap.size W W' := by
  have cT := fun W => isTurn_any k W
  have cH := fun W => tSide_any h W
  have cW := fun W => tSide_any w W
  unfold pAns
  by_cases hk : 0 ≤ k ∧ k < 8
  · simp only [decide_eq_true hk] at cT
    rw [if_neg (fun h => h hk)]
    by_cases hh : sideOk h
    · simp only [decide_eq_true hh] at cH
      by_cases hw : sideOk w
      · simp only [decide_eq_true hw] at cW
        rw [if_neg (fun h => h ⟨hh, hw⟩)]
        obtain ⟨kn, rfl⟩ := Int.eq_ofNat_of_zero_le hk.1
        obtain ⟨hn, rfl⟩ := Int.eq_ofNat_of_zero_le (show 0 ≤ h by have := hh.1; omega)
        obtain ⟨wn, rfl⟩ := Int.eq_ofNat_of_zero_le (show 0 ≤ w by have := hw.1; omega)
        have hh1 : 1 ≤ hn ∧ hn ≤ 16 := ⟨by have := hh.1; omega, by have := hh.2; omega⟩
        have hw1 : 1 ≤ wn ∧ wn ≤ 16 := ⟨by have := hw.1; omega, by have := hw.2; omega⟩
        have hmul : (hn : Int) * (wn : Int) = ((hn * wn : Nat) : Int) := (Int.natCast_mul _ _).symm
        have hml : hn * wn ≤ 256 := Nat.mul_le_mul hh1.2 hw1.2
        rw [hmul]
        by_cases hi0 : 0 ≤ i
        · by_cases hi1 : i < ((hn * wn : Nat) : Int)
          · rw [if_neg (fun h => h ⟨hi0, hi1⟩)]
            obtain ⟨x, rfl⟩ := Int.eq_ofNat_of_zero_le hi0
            have cM := fun W => moved_any hn wn x kn hh1 hw1 (by omega) (by omega) W
            simp only [Int.toNat_natCast]
            generalize plc hn wn x kn = ans at *
            generalize hn * wn = m at *
            clear hh hw hh1 hw1
            go_enter Tryd.func15, Tryd.ntmps15
            go_wp2_with fail
            refine (cT _).mono ?_
            rintro e w1 ⟨rfl, hw'⟩
            obtain rfl := hw'.symm
            clear hw'
            go_wp2_with fail
            refine (cH _).mono ?_
            rintro e w1 ⟨rfl, hw'⟩
            obtain rfl := hw'.symm
            clear hw'
            go_wp2_with fail
            refine (cW _).mono ?_
            rintro e w1 ⟨rfl, hw'⟩
            obtain rfl := hw'.symm
            clear hw'
            go_wp2_with fail
            refine (cM _).mono ?_
            rintro e w1 ⟨rfl, hb⟩
            clear cT cH cW cM
            go_wp2
            go_ret2
            exact ⟨rfl, hb⟩
          · rw [if_pos (fun h => hi1 h.2)]
            obtain ⟨x, rfl⟩ := Int.eq_ofNat_of_zero_le hi0
            have hi2 : hn * wn ≤ x := by omega
            generalize hn * wn = m at *
            clear hh hw hh1 hw1 hi1
            go_enter Tryd.func15, Tryd.ntmps15
            go_wp2_with fail
            refine (cT _).mono ?_
            rintro e w1 ⟨rfl, hw'⟩
            obtain rfl := hw'.symm
            clear hw'
            go_wp2_with fail
            refine (cH _).mono ?_
            rintro e w1 ⟨rfl, hw'⟩
            obtain rfl := hw'.symm
            clear hw'
            go_wp2_with fail
            refine (cW _).mono ?_
            rintro e w1 ⟨rfl, hw'⟩
            obtain rfl := hw'.symm
            clear hw'
            clear cT cH cW
            go_wp2
            go_ret2
            exact ⟨rfl, Below.refl _ _⟩
        · rw [if_pos (fun h => hi0 h.1)]
          have hi2 : i < 0 := by omega
          clear hh hw hh1 hw1 hi0
          go_enter Tryd.func15, Tryd.ntmps15
          go_wp2_with fail
          refine (cT _).mono ?_
          rintro e w1 ⟨rfl, hw'⟩
          obtain rfl := hw'.symm
          clear hw'
          go_wp2_with fail
          refine (cH _).mono ?_
          rintro e w1 ⟨rfl, hw'⟩
          obtain rfl := hw'.symm
          clear hw'
          go_wp2_with fail
          refine (cW _).mono ?_
          rintro e w1 ⟨rfl, hw'⟩
          obtain rfl := hw'.symm
          clear hw'
          clear cT cH cW
          go_wp2
          go_ret2
          exact ⟨rfl, Below.refl _ _⟩
      · simp only [decide_eq_false hw] at cW
        rw [if_pos (fun h => hw h.2)]
        go_enter Tryd.func15, Tryd.ntmps15
        go_wp2_with fail
        refine (cT _).mono ?_
        rintro e w1 ⟨rfl, hw'⟩
        obtain rfl := hw'.symm
        clear hw'
        go_wp2_with fail
        refine (cH _).mono ?_
        rintro e w1 ⟨rfl, hw'⟩
        obtain rfl := hw'.symm
        clear hw'
        go_wp2_with fail
        refine (cW _).mono ?_
        rintro e w1 ⟨rfl, hw'⟩
        obtain rfl := hw'.symm
        clear hw'
        clear cT cH cW
        go_wp2
        go_ret2
        exact ⟨rfl, Below.refl _ _⟩
    · simp only [decide_eq_false hh] at cH
      rw [if_pos (fun h => hh h.1)]
      go_enter Tryd.func15, Tryd.ntmps15
      go_wp2_with fail
      refine (cT _).mono ?_
      rintro e w1 ⟨rfl, hw'⟩
      obtain rfl := hw'.symm
      clear hw'
      go_wp2_with fail
      refine (cH _).mono ?_
      rintro e w1 ⟨rfl, hw'⟩
      obtain rfl := hw'.symm
      clear hw'
      clear cT cH cW
      go_wp2
      go_ret2
      exact ⟨rfl, Below.refl _ _⟩
  · simp only [decide_eq_false hk] at cT
    rw [if_pos hk]
    go_enter Tryd.func15, Tryd.ntmps15
    go_wp2_with fail
    refine (cT _).mono ?_
    rintro e w1 ⟨rfl, hw'⟩
    obtain rfl := hw'.symm
    clear hw'
    clear cT cH cW
    go_wp2
    go_ret2
    exact ⟨rfl, Below.refl _ _⟩
end Go.Proofs.YthjgldjjplcncabDoor.Grd
