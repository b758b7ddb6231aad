/-
  Layer 6: the document's Then and Back, of any numbers.
-/
import Derived.Test.YtgpnnnhhidbajaaDoorTrnf
import Derived.Test.YtgpnnnhhidbajaaDoorTrne
namespace Go.Proofs.YtgpnnnhhidbajaaDoor.Grd
open Go Go.Lib Go.RowKit

theorem pAns_in {h w i k : Nat} (h1 : 1 ≤ h ∧ h ≤ 16) (w1 : 1 ≤ w ∧ w ≤ 16) (hi : i < h * w) (hk : k < 8) : pAns h w i k = (((plc h w i k : Nat) : Int), (0 : Int)) := by
  unfold pAns sideOk
  have hmul : (h : Int) * (w : Int) = ((h * w : Nat) : Int) := (Int.natCast_mul _ _).symm
  rw [if_neg (by omega), if_neg (by omega), if_neg (by rw [hmul]; omega)]
  simp only [Int.toNat_natCast]
theorem refPlace_in (h w i k : Nat) (h1 : 1 ≤ h ∧ h ≤ 16) (w1 : 1 ≤ w ∧ w ≤ 16) (hi : i < h * w) (hk : k < 8) (W : World) :
    Calls Tryd.prog 24 #[.int .i64 h, .int .i64 w, .int .i64 i, .int .i64 k] W fun e W' => e = .returned (.tuple #[.int .i64 (plc h w i k : Nat), .int .i64 0]) ∧ Below W.heap.size W W' := by
  have := refPlace_any h w i k W
  rw [pAns_in h1 w1 hi hk] at this
  exact this
def sda (a : Nat) : Nat := if a % 2 = 1 then 3 else 2
def sdb (a : Nat) : Nat := if a % 2 = 1 then 2 else 3
def eqc (a b c i : Nat) : Bool := decide (plc (sda a) (sdb a) (plc 2 3 i a) b = plc 2 3 i c)
def sam (a b c : Nat) : Nat → Bool
  | 0 => decide ((a + b) % 2 = c % 2)
  | i + 1 => sam a b c i && eqc a b c i
theorem sam_thn : ∀ a, a < 8 → ∀ b, b < 8 → ∀ c, c < 8 → sam a b c 6 = decide (thn a b = c) := by decide +kernel
theorem sam_false {a b c i : Nat} (h : sam a b c i = false) : ∀ d, sam a b c (i + d) = false
  | 0 => h
  | d + 1 => by
    show (sam a b c (i + d) && _) = false
    rw [sam_false h d, Bool.false_and]
theorem sam_end {a b c i : Nat} (h : sam a b c i = false) (hi : i ≤ 6) : sam a b c 6 = false := by
  have := sam_false h (6 - i)
  rwa [show i + (6 - i) = 6 by omega] at this

theorem thnI_bck {a : Int} (h : 0 ≤ a ∧ a < 8) {b : Nat} (hb : b < 8) : (thnI a b = 0 ↔ b = bck a.toNat) := by
  obtain ⟨x, rfl⟩ := Int.eq_ofNat_of_zero_le h.1
  unfold thnI
  rw [if_pos (by omega)]
  simp only [Int.toNat_natCast]
  rw [← thn_back x (by omega) b hb]
  omega
theorem thnI_not {a : Int} (h : ¬ (0 ≤ a ∧ a < 8)) (b : Int) : thnI a b = -1 := by
  unfold thnI
  rw [if_neg (fun x => h ⟨x.1, x.2.1⟩)]
end Go.Proofs.YtgpnnnhhidbajaaDoor.Grd
