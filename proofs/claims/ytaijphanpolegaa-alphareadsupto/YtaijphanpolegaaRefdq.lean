/-
  The document's Upper walked: the same answers, for every number that an int32 can be.
-/
import Derived.Test.YtaijphanpolegaaFldpq
import Derived.Test.YtaijphanpolegaaUtfwq
namespace Go.Proofs.Ytaijphanpolegaa.Utf
open Go Go.Lib Go.RowKit

theorem tm2 (r : Int) : (0 ≤ r ∧ r.tmod 2 = r % 2) ∨ r < 0 := by
  by_cases h : 0 ≤ r
  · exact .inl ⟨h, Int.tmod_eq_emod_of_nonneg h⟩
  · exact .inr (by omega)
set_option maxHeartbeats 8000000 in
theorem refUpper_any (r : Int) (w : World) (h0 : -2147483648 ≤ r) (h1 : r ≤ 2147483647) :
    Calls Try.prog 58 #[.int .i32 r] w fun e w' => e = .returned (.int .i32 (up r)) ∧ w' = w := by
  have hc := up_cases r
  unfold up32 up1 at hc
  have ht := tm2 r
  generalize up r = C at *
  go_enter Try.func58, Try.ntmps58
  go_wp2
  all_goals (go_ret; refine ⟨ret_i ?_, rfl⟩)
  all_goals (try simp only [beq_iff_eq, beq_eq_false_iff_ne, ne_eq, bne_iff_ne, bne_eq_false_iff_eq] at *)
  all_goals omega
end Go.Proofs.Ytaijphanpolegaa.Utf
