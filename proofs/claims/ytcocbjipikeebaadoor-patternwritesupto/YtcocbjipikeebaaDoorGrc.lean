/-
  The document's Class, Upper and Plain walked: the same answers, for every number that an int32 can be.
-/
import Derived.Test.YtcocbjipikeebaaDoorGfl
import Derived.Test.YtcocbjipikeebaaDoorGub
namespace Go.Proofs.YtcocbjipikeebaaDoor.Utf
open Go Go.Lib Go.RowKit

set_option maxHeartbeats 4000000 in
theorem refClass_any (r : Int) (w : World) (h0 : -2147483648 ≤ r) (h1 : r ≤ 2147483647) :
    Calls Tryd.prog 34 #[.int .i32 r] w fun e w' => e = .returned (.int .i64 (cls r)) ∧ w' = w := by
  have hc : (isL r ∧ cls r = 1) ∨ ((48 ≤ r ∧ r ≤ 57) ∧ cls r = 2) ∨ (isB r ∧ cls r = 3) ∨ ((768 ≤ r ∧ r ≤ 879) ∧ cls r = 4) ∨ (¬ isL r ∧ ¬ (48 ≤ r ∧ r ≤ 57) ∧ ¬ isB r ∧ ¬ (768 ≤ r ∧ r ≤ 879) ∧ cls r = 0) := by
    by_cases h : isL r
    · exact .inl ⟨h, cls_1.2 h⟩
    · have := cls_cases h
      simp only [h, false_and, not_false_eq_true, true_and, false_or]
      exact this
  unfold isL isB at hc
  generalize cls r = C at *
  go_enter Tryd.func34, Tryd.ntmps34
  go_wp2
  all_goals (go_ret; refine ⟨ret_i ?_, rfl⟩)
  all_goals (try simp only [beq_iff_eq, beq_eq_false_iff_ne, ne_eq] at *)
  all_goals omega
end Go.Proofs.YtcocbjipikeebaaDoor.Utf
/-
  The document's Upper walked: the same answers, for every number that an int32 can be.
-/
namespace Go.Proofs.YtcocbjipikeebaaDoor.Utf
open Go Go.Lib Go.RowKit

theorem tm2 (r : Int) : (0 ≤ r ∧ r.tmod 2 = r % 2) ∨ r < 0 := by
  by_cases h : 0 ≤ r
  · exact .inl ⟨h, Int.tmod_eq_emod_of_nonneg h⟩
  · exact .inr (by omega)
set_option maxHeartbeats 8000000 in
theorem refUpper_any (r : Int) (w : World) (h0 : -2147483648 ≤ r) (h1 : r ≤ 2147483647) :
    Calls Tryd.prog 35 #[.int .i32 r] w fun e w' => e = .returned (.int .i32 (up r)) ∧ w' = w := by
  have hc := up_cases r
  unfold up32 up1 at hc
  have ht := tm2 r
  generalize up r = C at *
  go_enter Tryd.func35, Tryd.ntmps35
  go_wp2
  all_goals (go_ret; refine ⟨ret_i ?_, rfl⟩)
  all_goals (try simp only [beq_iff_eq, beq_eq_false_iff_ne, ne_eq, bne_iff_ne, bne_eq_false_iff_eq] at *)
  all_goals omega
end Go.Proofs.YtcocbjipikeebaaDoor.Utf
