/-
  Layer 6: Then and Back of any numbers, and that the laws are awake.
-/
import Derived.Test.YtgpnnnhhidbajaaDoorTrnd
namespace Go.Proofs.YtgpnnnhhidbajaaDoor.Grd
open Go Go.Lib Go.RowKit

def thnI (a b : Int) : Int := if 0 ≤ a ∧ a < 8 ∧ 0 ≤ b ∧ b < 8 then (thn a.toNat b.toNat : Nat) else -1
def bckI (a : Int) : Int := if 0 ≤ a ∧ a < 8 then (bck a.toNat : Nat) else -1
theorem thn_join : ∀ a, a < 8 → ∀ b, b < 8 → (if (if 4 ≤ b then !decide (4 ≤ a) else decide (4 ≤ a)) then 4 + ((if 4 ≤ b then 4 - a % 4 else a % 4) + b % 4) % 4 else ((if 4 ≤ b then 4 - a % 4 else a % 4) + b % 4) % 4) = thn a b := by decide
theorem bck_join : ∀ a, a < 8 → ¬ 4 ≤ a → (4 - a) % 4 = bck a := by decide
theorem bck_self : ∀ a, a < 8 → 4 ≤ a → bck a = a := by decide

set_option maxHeartbeats 1000000 in
theorem Then_any (a b : Int) (W : World) :
    Calls Tryd.prog 16 #[.int .i64 a, .int .i64 b] W fun e W' => e = .returned (.int .i64 (thnI a b)) ∧ W' = W := by
  have cA := fun W => isTurn_any a W
  have cB := fun W => isTurn_any b W
  have mA := fun W => isMirrored_any a W
  have mB := fun W => isMirrored_any b W
  unfold thnI
  by_cases ha : 0 ≤ a ∧ a < 8
  · simp only [decide_eq_true ha] at cA
    by_cases hb : 0 ≤ b ∧ b < 8
    · simp only [decide_eq_true hb] at cB
      rw [if_pos ⟨ha.1, ha.2, hb.1, hb.2⟩]
      obtain ⟨x, rfl⟩ := Int.eq_ofNat_of_zero_le ha.1
      obtain ⟨y, rfl⟩ := Int.eq_ofNat_of_zero_le hb.1
      simp only [Int.toNat_natCast]
      have hx8 : x < 8 := by omega
      have hy8 : y < 8 := by omega
      have ht := thn_join x hx8 y hy8
      have hxm : (x : Int) % 4 = ((x % 4 : Nat) : Int) := by omega
      have hym : (y : Int) % 4 = ((y % 4 : Nat) : Int) := by omega
      have hx4 : x % 4 < 4 := Nat.mod_lt _ (by omega)
      have hy4 : y % 4 < 4 := Nat.mod_lt _ (by omega)
      by_cases h4 : 4 ≤ y
      · simp only [if_pos h4] at ht
        simp only [decide_eq_true (show (4 : Int) ≤ (y : Int) by omega)] at mB
        have e4 : (4 : Int) - ((x % 4 : Nat) : Int) + ((y % 4 : Nat) : Int) = ((4 - x % 4 + y % 4 : Nat) : Int) := by omega
        by_cases h5 : 4 ≤ x
        · simp only [decide_eq_true h5, Bool.not_true, Bool.false_eq_true, if_false] at ht
          simp only [decide_eq_true (show (4 : Int) ≤ (x : Int) by omega)] at mA
          have cJ := fun W => joined_any false (4 - x % 4 + y % 4) (by omega) W
          simp only [Bool.false_eq_true, if_false, ht] at cJ
          rw [← e4] at cJ
          generalize x % 4 = xm at *
          generalize y % 4 = ym at *
          generalize thn x y = ans at *
          clear ht e4
          go_enter Tryd.func16, Tryd.ntmps16
          go_wp2_with fail
          refine (cA _).mono ?_
          rintro e w1 ⟨rfl, hw'⟩
          obtain rfl := hw'.symm
          clear hw'
          go_wp2_with fail
          refine (cB _).mono ?_
          rintro e w1 ⟨rfl, hw'⟩
          obtain rfl := hw'.symm
          clear hw'
          go_wp2_with fail
          refine (mA _).mono ?_
          rintro e w1 ⟨rfl, hw'⟩
          obtain rfl := hw'.symm
          clear hw'
          go_wp2_with fail
          refine (mB _).mono ?_
          rintro e w1 ⟨rfl, hw'⟩
          obtain rfl := hw'.symm
          clear hw'
          go_wp2_with fail
          refine (cJ _).mono ?_
          rintro e w1 ⟨rfl, hw'⟩
          obtain rfl := hw'.symm
          clear hw'
          clear cA cB mA mB cJ
          go_wp2
          go_ret
          exact ⟨rfl, rfl⟩
        · simp only [decide_eq_false h5, Bool.not_false, if_true] at ht
          simp only [decide_eq_false (show ¬ (4 : Int) ≤ (x : Int) by omega)] at mA
          have cJ := fun W => joined_any true (4 - x % 4 + y % 4) (by omega) W
          simp only [if_true, ht] at cJ
          rw [← e4] at cJ
          generalize x % 4 = xm at *
          generalize y % 4 = ym at *
          generalize thn x y = ans at *
          clear ht e4
          go_enter Tryd.func16, Tryd.ntmps16
          go_wp2_with fail
          refine (cA _).mono ?_
          rintro e w1 ⟨rfl, hw'⟩
          obtain rfl := hw'.symm
          clear hw'
          go_wp2_with fail
          refine (cB _).mono ?_
          rintro e w1 ⟨rfl, hw'⟩
          obtain rfl := hw'.symm
          clear hw'
          go_wp2_with fail
          refine (mA _).mono ?_
          rintro e w1 ⟨rfl, hw'⟩
          obtain rfl := hw'.symm
          clear hw'
          go_wp2_with fail
          refine (mB _).mono ?_
          rintro e w1 ⟨rfl, hw'⟩
          obtain rfl := hw'.symm
          clear hw'
          go_wp2_with fail
          refine (cJ _).mono ?_
          rintro e w1 ⟨rfl, hw'⟩
          obtain rfl := hw'.symm
          clear hw'
          clear cA cB mA mB cJ
          go_wp2
          go_ret
          exact ⟨rfl, rfl⟩
      · simp only [if_neg h4] at ht
        simp only [decide_eq_false (show ¬ (4 : Int) ≤ (y : Int) by omega)] at mB
        have e4 : ((x % 4 : Nat) : Int) + ((y % 4 : Nat) : Int) = ((x % 4 + y % 4 : Nat) : Int) := by omega
        by_cases h5 : 4 ≤ x
        · simp only [decide_eq_true h5, if_true] at ht
          simp only [decide_eq_true (show (4 : Int) ≤ (x : Int) by omega)] at mA
          have cJ := fun W => joined_any true (x % 4 + y % 4) (by omega) W
          simp only [if_true, ht] at cJ
          rw [← e4] at cJ
          generalize x % 4 = xm at *
          generalize y % 4 = ym at *
          generalize thn x y = ans at *
          clear ht e4
          go_enter Tryd.func16, Tryd.ntmps16
          go_wp2_with fail
          refine (cA _).mono ?_
          rintro e w1 ⟨rfl, hw'⟩
          obtain rfl := hw'.symm
          clear hw'
          go_wp2_with fail
          refine (cB _).mono ?_
          rintro e w1 ⟨rfl, hw'⟩
          obtain rfl := hw'.symm
          clear hw'
          go_wp2_with fail
          refine (mA _).mono ?_
          rintro e w1 ⟨rfl, hw'⟩
          obtain rfl := hw'.symm
          clear hw'
          go_wp2_with fail
          refine (mB _).mono ?_
          rintro e w1 ⟨rfl, hw'⟩
          obtain rfl := hw'.symm
          clear hw'
          go_wp2_with fail
          refine (cJ _).mono ?_
          rintro e w1 ⟨rfl, hw'⟩
          obtain rfl := hw'.symm
          clear hw'
          clear cA cB mA mB cJ
          go_wp2
          go_ret
          exact ⟨rfl, rfl⟩
        · simp only [decide_eq_false h5, Bool.false_eq_true, if_false] at ht
          simp only [decide_eq_false (show ¬ (4 : Int) ≤ (x : Int) by omega)] at mA
          have cJ := fun W => joined_any false (x % 4 + y % 4) (by omega) W
          simp only [Bool.false_eq_true, if_false, ht] at cJ
          rw [← e4] at cJ
          generalize x % 4 = xm at *
          generalize y % 4 = ym at *
          generalize thn x y = ans at *
          clear ht e4
          go_enter Tryd.func16, Tryd.ntmps16
          go_wp2_with fail
          refine (cA _).mono ?_
          rintro e w1 ⟨rfl, hw'⟩
          obtain rfl := hw'.symm
          clear hw'
          go_wp2_with fail
          refine (cB _).mono ?_
          rintro e w1 ⟨rfl, hw'⟩
          obtain rfl := hw'.symm
          clear hw'
          go_wp2_with fail
          refine (mA _).mono ?_
          rintro e w1 ⟨rfl, hw'⟩
          obtain rfl := hw'.symm
          clear hw'
          go_wp2_with fail
          refine (mB _).mono ?_
          rintro e w1 ⟨rfl, hw'⟩
          obtain rfl := hw'.symm
          clear hw'
          go_wp2_with fail
          refine (cJ _).mono ?_
          rintro e w1 ⟨rfl, hw'⟩
          obtain rfl := hw'.symm
          clear hw'
          clear cA cB mA mB cJ
          go_wp2
          go_ret
          exact ⟨rfl, rfl⟩
    · simp only [decide_eq_false hb] at cB
      rw [if_neg (fun h => hb ⟨h.2.2.1, h.2.2.2⟩)]
      go_enter Tryd.func16, Tryd.ntmps16
      go_wp2_with fail
      refine (cA _).mono ?_
      rintro e w1 ⟨rfl, hw'⟩
      obtain rfl := hw'.symm
      clear hw'
      go_wp2_with fail
      refine (cB _).mono ?_
      rintro e w1 ⟨rfl, hw'⟩
      obtain rfl := hw'.symm
      clear hw'
      clear cA cB mA mB
      go_wp2
      go_ret
      exact ⟨rfl, rfl⟩
  · simp only [decide_eq_false ha] at cA
    rw [if_neg (fun h => ha ⟨h.1, h.2.1⟩)]
    go_enter Tryd.func16, Tryd.ntmps16
    go_wp2_with fail
    refine (cA _).mono ?_
    rintro e w1 ⟨rfl, hw'⟩
    obtain rfl := hw'.symm
    clear hw'
    clear cA cB mA mB
    go_wp2
    go_ret
    exact ⟨rfl, rfl⟩

set_option maxHeartbeats 1000000 in
theorem Back_any (a : Int) (W : World) :
    Calls Tryd.prog 17 #[.int .i64 a] W fun e W' => e = .returned (.int .i64 (bckI a)) ∧ W' = W := by
  have cA := fun W => isTurn_any a W
  have mA := fun W => isMirrored_any a W
  unfold bckI
  by_cases ha : 0 ≤ a ∧ a < 8
  · simp only [decide_eq_true ha] at cA
    rw [if_pos ha]
    obtain ⟨x, rfl⟩ := Int.eq_ofNat_of_zero_le ha.1
    simp only [Int.toNat_natCast]
    have hx8 : x < 8 := by omega
    by_cases h4 : 4 ≤ x
    · simp only [decide_eq_true (show (4 : Int) ≤ (x : Int) by omega)] at mA
      rw [bck_self x hx8 h4]
      go_enter Tryd.func17, Tryd.ntmps17
      go_wp2_with fail
      refine (cA _).mono ?_
      rintro e w1 ⟨rfl, hw'⟩
      obtain rfl := hw'.symm
      clear hw'
      go_wp2_with fail
      refine (mA _).mono ?_
      rintro e w1 ⟨rfl, hw'⟩
      obtain rfl := hw'.symm
      clear hw'
      clear cA mA
      go_wp2
      go_ret
      exact ⟨rfl, rfl⟩
    · simp only [decide_eq_false (show ¬ (4 : Int) ≤ (x : Int) by omega)] at mA
      have cJ := fun W => joined_any false (4 - x) (by omega) W
      simp only [Bool.false_eq_true, if_false, bck_join x hx8 h4] at cJ
      rw [show ((4 - x : Nat) : Int) = 4 - (x : Int) by omega] at cJ
      generalize bck x = ans at *
      go_enter Tryd.func17, Tryd.ntmps17
      go_wp2_with fail
      refine (cA _).mono ?_
      rintro e w1 ⟨rfl, hw'⟩
      obtain rfl := hw'.symm
      clear hw'
      go_wp2_with fail
      refine (mA _).mono ?_
      rintro e w1 ⟨rfl, hw'⟩
      obtain rfl := hw'.symm
      clear hw'
      go_wp2_with fail
      refine (cJ _).mono ?_
      rintro e w1 ⟨rfl, hw'⟩
      obtain rfl := hw'.symm
      clear hw'
      clear cA mA cJ
      go_wp2
      go_ret
      exact ⟨rfl, rfl⟩
  · simp only [decide_eq_false ha] at cA
    rw [if_neg ha]
    go_enter Tryd.func17, Tryd.ntmps17
    go_wp2_with fail
    refine (cA _).mono ?_
    rintro e w1 ⟨rfl, hw'⟩
    obtain rfl := hw'.symm
    clear hw'
    clear cA mA
    go_wp2
    go_ret
    exact ⟨rfl, rfl⟩

set_option maxHeartbeats 1000000 in
theorem awake6_any (W : World) :
    Calls Tryd.prog 7 #[] W fun e W' => e = .returned (.bool true) ∧ Below W.heap.size W W' := by
  have cP := fun W => Place_any 2 3 0 1 W
  have e1 : pAns 2 3 0 1 = (1, 0) := by decide
  simp only [e1] at cP
  have cT := fun W => Then_any 1 4 W
  have e2 : thnI 1 4 = 7 := by decide
  simp only [e2] at cT
  have cB := fun W => Back_any 1 W
  have e3 : bckI 1 = 3 := by decide
  simp only [e3] at cB
  go_enter Tryd.func7, Tryd.ntmps7
  go_wp2_with fail
  refine (cP _).mono ?_
  rintro e w1 ⟨rfl, hb⟩
  go_wp2_with fail
  refine (cT _).mono ?_
  rintro e w1 ⟨rfl, hw'⟩
  obtain rfl := hw'.symm
  clear hw'
  go_wp2_with fail
  refine (cB _).mono ?_
  rintro e w1 ⟨rfl, hw'⟩
  obtain rfl := hw'.symm
  clear hw'
  clear cP cT cB
  go_wp2
  go_ret
  exact ⟨rfl, hb⟩
end Go.Proofs.YtgpnnnhhidbajaaDoor.Grd
