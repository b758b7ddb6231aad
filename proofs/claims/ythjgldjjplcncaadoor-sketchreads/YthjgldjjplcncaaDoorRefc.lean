/-
  The document's Class, Upper and Plain walked: the same answers, for every number that an int32 can be.
-/
import Derived.Test.YthjgldjjplcncaaDoorFldp
import Derived.Test.YthjgldjjplcncaaDoorUtfw
namespace Go.Proofs.YthjgldjjplcncaaDoor.Utf
open Go Go.Lib Go.RowKit

set_option maxHeartbeats 4000000 in
theorem refClass_any (r : Int) (w : World) (h0 : -2147483648 ≤ r) (h1 : r ≤ 2147483647) :
    Calls Tryd.prog 33 #[.int .i32 r] w fun e w' => e = .returned (.int .i64 (cls r)) ∧ w' = w := by
  have hc : (isL r ∧ cls r = 1) ∨ ((48 ≤ r ∧ r ≤ 57) ∧ cls r = 2) ∨ (isB r ∧ cls r = 3) ∨ ((768 ≤ r ∧ r ≤ 879) ∧ cls r = 4) ∨ (¬ isL r ∧ ¬ (48 ≤ r ∧ r ≤ 57) ∧ ¬ isB r ∧ ¬ (768 ≤ r ∧ r ≤ 879) ∧ cls r = 0) := by
    by_cases h : isL r
    · exact .inl ⟨h, cls_1.2 h⟩
    · have := cls_cases h
      simp only [h, false_and, not_false_eq_true, true_and, false_or]
      exact this
  unfold isL isB at hc
  generalize cls r = C at *
  go_enter Tryd.func33, Tryd.ntmps33
  go_wp2
  all_goals (go_ret; refine ⟨ret_i ?_, rfl⟩)
  all_goals (try simp only [beq_iff_eq, beq_eq_false_iff_ne, ne_eq] at *)
  all_goals omega
end Go.Proofs.YthjgldjjplcncaaDoor.Utf
