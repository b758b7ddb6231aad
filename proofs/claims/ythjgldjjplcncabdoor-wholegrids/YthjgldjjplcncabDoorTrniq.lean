/-
  The low bits of a number: a small natural number.
-/
import Derived.Test.YthjgldjjplcncabDoorGtk
namespace Go.Proofs.YthjgldjjplcncabDoor.Grd
open Go Go.Lib Go.RowKit

theorem wrap_low (n : Nat) (hn : n < 256) : IntKind.i64.wrap (n : Int) = (n : Int) := by
  simp [IntKind.wrap, IntKind.signed, IntKind.bits]
  omega
theorem low_bits (x : Int) (m : Nat) (hm : m < 256) : ∃ n : Nat, bits .and .i64 x (m : Int) = (n : Int) ∧ n ≤ m := by
  have h1 : ((BitVec.ofInt 64 x) &&& (BitVec.ofInt 64 (m : Int))).toNat ≤ m := by
    rw [BitVec.toNat_and]
    refine Nat.le_trans Nat.and_le_right ?_
    simp
    omega
  exact ⟨((BitVec.ofInt 64 x) &&& (BitVec.ofInt 64 (m : Int))).toNat, wrap_low _ (Nat.lt_of_le_of_lt h1 hm), h1⟩
end Go.Proofs.YthjgldjjplcncabDoor.Grd
