/-
  The document's Plain walked: the same answers, for every number that an int32 can be.
-/
import Derived.Test.YtiemndjcebhgcaaFldp
import Derived.Test.YtiemndjcebhgcaaUtfw
namespace Go.Proofs.Ytiemndjcebhgcaa.Utf
open Go Go.Lib Go.RowKit

theorem ret_bl {a b : Bool} (h : a = b) : Ending.returned (.bool a) = .returned (.bool b) := by rw [h]
/-- Texts of bytes below 128 are their own runes. -/
theorem encR_ascii : ∀ (l : List UInt8), (l.all fun b => decide (b.toNat < 128)) = true → encR (l.map UInt8.toNat) = l
  | [], _ => rfl
  | b :: r, h => by
    rw [List.all_cons, Bool.and_eq_true, decide_eq_true_iff] at h
    rw [List.map_cons, encR_cons, encR_ascii r h.2, encB, encZ1 (by omega) (by omega)]
    simp
theorem pl_ascii {n : Int} (E : ByteArray) (h : plT n = E.data.toList.map UInt8.toNat) (h1 : (E.data.toList.all fun b => decide (b.toNat < 128)) = true) (h2 : E.data.toList.map UInt8.toNat ≠ []) : E = pl n := by
  rw [pl_hit _ h h2, encR_ascii _ h1]

end Go.Proofs.Ytiemndjcebhgcaa.Utf
