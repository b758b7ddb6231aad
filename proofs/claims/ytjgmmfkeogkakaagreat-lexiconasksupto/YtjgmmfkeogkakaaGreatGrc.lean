/-
  The document's Class, Upper and Plain walked: the same answers, for every number that an int32 can be.
-/
import Derived.Test.YtjgmmfkeogkakaaGreatGfl
import Derived.Test.YtjgmmfkeogkakaaGreatUtfwq
import Derived.Test.YtjgmmfkeogkakaaGreatGref
import Derived.Test.YtjgmmfkeogkakaaGreatGxm
namespace Go.Proofs.YtjgmmfkeogkakaaGreat.Utf
open Go Go.Lib Go.RowKit

set_option maxHeartbeats 4000000 in
theorem refClass_any (r : Int) (w : World) (h0 : -2147483648 ≤ r) (h1 : r ≤ 2147483647) :
    Calls Tryz.prog 46 #[.int .i32 r] w fun e w' => e = .returned (.int .i64 (cls r)) ∧ w' = w := by
  have hc : (isL r ∧ cls r = 1) ∨ ((48 ≤ r ∧ r ≤ 57) ∧ cls r = 2) ∨ (isB r ∧ cls r = 3) ∨ ((768 ≤ r ∧ r ≤ 879) ∧ cls r = 4) ∨ (¬ isL r ∧ ¬ (48 ≤ r ∧ r ≤ 57) ∧ ¬ isB r ∧ ¬ (768 ≤ r ∧ r ≤ 879) ∧ cls r = 0) := by
    by_cases h : isL r
    · exact .inl ⟨h, cls_1.2 h⟩
    · have := cls_cases h
      simp only [h, false_and, not_false_eq_true, true_and, false_or]
      exact this
  unfold isL isB at hc
  generalize cls r = C at *
  go_enter Tryz.func46, Tryz.ntmps46
  go_wp2
  all_goals (go_ret; refine ⟨ret_i ?_, rfl⟩)
  all_goals (try simp only [beq_iff_eq, beq_eq_false_iff_ne, ne_eq] at *)
  all_goals omega
end Go.Proofs.YtjgmmfkeogkakaaGreat.Utf
/-
  The document's Upper walked: the same answers, for every number that an int32 can be.
-/
namespace Go.Proofs.YtjgmmfkeogkakaaGreat.Utf
open Go Go.Lib Go.RowKit

theorem tm2 (r : Int) : (0 ≤ r ∧ r.tmod 2 = r % 2) ∨ r < 0 := by
  by_cases h : 0 ≤ r
  · exact .inl ⟨h, Int.tmod_eq_emod_of_nonneg h⟩
  · exact .inr (by omega)
set_option maxHeartbeats 8000000 in
theorem refUpper_any (r : Int) (w : World) (h0 : -2147483648 ≤ r) (h1 : r ≤ 2147483647) :
    Calls Tryz.prog 47 #[.int .i32 r] w fun e w' => e = .returned (.int .i32 (up r)) ∧ w' = w := by
  have hc := up_cases r
  unfold up32 up1 at hc
  have ht := tm2 r
  generalize up r = C at *
  go_enter Tryz.func47, Tryz.ntmps47
  go_wp2
  all_goals (go_ret; refine ⟨ret_i ?_, rfl⟩)
  all_goals (try simp only [beq_iff_eq, beq_eq_false_iff_ne, ne_eq, bne_iff_ne, bne_eq_false_iff_eq] at *)
  all_goals omega
end Go.Proofs.YtjgmmfkeogkakaaGreat.Utf
/-
  The document's Plain walked: the same answers, for every number that an int32 can be.
-/
namespace Go.Proofs.YtjgmmfkeogkakaaGreat.Utf
open Go Go.Lib Go.RowKit

theorem ret_bl {a b : Bool} (h : a = b) : Ending.returned (.bool a) = .returned (.bool b) := by rw [h]
/-- Texts of bytes below 128 are their own runes. -/
theorem encR_ascii : ∀ (l : List UInt8), (l.all fun b => decide (b.toNat < 128)) = true → encR (l.map UInt8.toNat) = l
  | [], _ => rfl
  | b :: r, h => by
    rw [List.all_cons, Bool.and_eq_true, decide_eq_true_iff] at h
    rw [List.map_cons, encR_cons, encR_ascii r h.2, encB, encZ1 (by omega) (by omega)]
    simp
theorem pl_ascii {n : Int} (E : ByteArray) (h : plT n = E.data.toList.map UInt8.toNat) (h1 : (E.data.toList.all fun b => decide (b.toNat < 128)) = true) (h2 : E.data.toList.map UInt8.toNat ≠ []) : E = pl n := by
  rw [pl_hit _ h h2, encR_ascii _ h1]

end Go.Proofs.YtjgmmfkeogkakaaGreat.Utf
/-
  The document's Fold walked: what folding makes of the text's runes, for every text of up to 16777216 bytes.
-/
namespace Go.Proofs.YtjgmmfkeogkakaaGreat.Utf
open Go Go.Lib Go.RowKit

theorem foldRs_take {p : Bool} {vals : List Nat} {k : Nat} (h : k < vals.length) : foldRs p (vals.take (k + 1)) = foldRs p (vals.take k) ++ foldR p (vals[k] : Int) := by
  rw [List.take_succ_eq_append_getElem h, foldRs_append]
  simp [foldRs]

end Go.Proofs.YtjgmmfkeogkakaaGreat.Utf
