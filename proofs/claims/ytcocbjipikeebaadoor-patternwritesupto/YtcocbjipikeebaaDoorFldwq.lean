/-
  What the program's calls on runes come to: within, isLetter, Class, followsCapital, Upper, for every number that an int32 can be.
-/
import Derived.Test.YtcocbjipikeebaaDoorUtfaq
import Derived.Test.YtcocbjipikeebaaDoorGutf
namespace Go.Proofs.YtcocbjipikeebaaDoor.Utf
open Go Go.Lib Go.RowKit

theorem within_any (r a b : Int) (w : World) :
    Calls Tryd.prog 62 #[.int .i32 r, .int .i32 a, .int .i32 b] w fun e w' => e = .returned (.bool (decide (a ≤ r ∧ r ≤ b))) ∧ w' = w := by
  by_cases h1 : a ≤ r
  · by_cases h2 : r ≤ b
    · rw [decide_eq_true ⟨h1, h2⟩]
      go_enter Tryd.func62, Tryd.ntmps62
      go_wp2
      all_goals (go_ret; first | exact ⟨rfl, rfl⟩ | omega)
    · rw [decide_eq_false (by omega)]
      go_enter Tryd.func62, Tryd.ntmps62
      go_wp2
      all_goals (go_ret; first | exact ⟨rfl, rfl⟩ | omega)
  · rw [decide_eq_false (by omega)]
    go_enter Tryd.func62, Tryd.ntmps62
    go_wp2
    all_goals (go_ret; first | exact ⟨rfl, rfl⟩ | omega)
theorem within_two (r a b : Int) (w : World) : ((a ≤ r ∧ r ≤ b) ∧ Calls Tryd.prog 62 #[.int .i32 r, .int .i32 a, .int .i32 b] w fun e w' => e = .returned (.bool true) ∧ w' = w) ∨
    (¬ (a ≤ r ∧ r ≤ b) ∧ Calls Tryd.prog 62 #[.int .i32 r, .int .i32 a, .int .i32 b] w fun e w' => e = .returned (.bool false) ∧ w' = w) := by
  have c := within_any r a b w
  by_cases h : a ≤ r ∧ r ≤ b
  · rw [decide_eq_true h] at c; exact .inl ⟨h, c⟩
  · rw [decide_eq_false h] at c; exact .inr ⟨h, c⟩
theorem ret_i {k : IntKind} {a b : Int} (h : a = b) : Ending.returned (.int k a) = .returned (.int k b) := by rw [h]

set_option maxHeartbeats 1000000 in
theorem isLetter_any (r : Int) (w : World) :
    Calls Tryd.prog 61 #[.int .i32 r] w fun e w' => e = .returned (.bool (decide (isL r))) ∧ w' = w := by
  have fin : ∀ (x : Bool), (x = true ↔ isL r) → (Ending.returned (.bool x) = .returned (.bool (decide (isL r)))) := fun x h => by
    have : x = decide (isL r) := by cases x <;> simp_all
    rw [this]
  unfold isL at fin
  go_enter Tryd.func61, Tryd.ntmps61
  go_wp2_with (go_at_call 62; rcases within_two _ _ _ _ with ⟨h, c⟩ | ⟨h, c⟩ <;> (refine c.mono ?_; clear c; rintro e w' ⟨rfl, rfl⟩))
  all_goals (go_ret; refine ⟨fin _ ?_, rfl⟩; simp only [true_iff, false_iff, Bool.false_eq_true, beq_iff_eq, beq_eq_false_iff_ne, ne_eq] at *; omega)

theorem isLetter_two (r : Int) (w : World) : (isL r ∧ Calls Tryd.prog 61 #[.int .i32 r] w fun e w' => e = .returned (.bool true) ∧ w' = w) ∨
    (¬ isL r ∧ Calls Tryd.prog 61 #[.int .i32 r] w fun e w' => e = .returned (.bool false) ∧ w' = w) := by
  have c := isLetter_any r w
  by_cases h : isL r
  · rw [decide_eq_true h] at c; exact .inl ⟨h, c⟩
  · rw [decide_eq_false h] at c; exact .inr ⟨h, c⟩

theorem cls_cases {n : Int} (h : ¬ isL n) : ((48 ≤ n ∧ n ≤ 57) ∧ cls n = 2) ∨ (isB n ∧ cls n = 3) ∨ ((768 ≤ n ∧ n ≤ 879) ∧ cls n = 4) ∨ (¬ (48 ≤ n ∧ n ≤ 57) ∧ ¬ isB n ∧ ¬ (768 ≤ n ∧ n ≤ 879) ∧ cls n = 0) := by
  unfold cls
  rw [if_neg h]
  repeat' split
  all_goals simp_all
set_option maxHeartbeats 1000000 in
theorem class_any (r : Int) (w : World) :
    Calls Tryd.prog 43 #[.int .i32 r] w fun e w' => e = .returned (.int .i64 (cls r)) ∧ w' = w := by
  rcases isLetter_two r w with ⟨h, c⟩ | ⟨h, c⟩
  · rw [cls_1.2 h]
    go_enter Tryd.func43, Tryd.ntmps43
    go_wp2_with (go_at_call 61; refine c.mono ?_; clear c; rintro e w' ⟨rfl, rfl⟩)
    go_ret
    exact ⟨rfl, rfl⟩
  · have hc := cls_cases h
    unfold isB at hc
    generalize cls r = C at *
    clear h
    go_enter Tryd.func43, Tryd.ntmps43
    go_wp2_with (first
      | (go_at_call 61; refine c.mono ?_; clear c; rintro e w' ⟨rfl, rfl⟩)
      | (go_at_call 62; rcases within_two _ _ _ _ with ⟨h, c⟩ | ⟨h, c⟩ <;> (refine c.mono ?_; clear c; rintro e w' ⟨rfl, rfl⟩)))
    all_goals (go_ret; refine ⟨ret_i ?_, rfl⟩; (try simp only [beq_iff_eq, beq_eq_false_iff_ne, ne_eq] at *); omega)

set_option maxHeartbeats 1000000 in
theorem follows_any (r : Int) (w : World) (h0 : -2147483648 ≤ r) (h1 : r ≤ 2147483647) :
    Calls Tryd.prog 63 #[.int .i32 r] w fun e w' => e = .returned (.bool (decide (up1 r))) ∧ w' = w := by
  have fin : ∀ (x : Bool), (x = true ↔ up1 r) → (Ending.returned (.bool x) = .returned (.bool (decide (up1 r)))) := fun x h => by
    have : x = decide (up1 r) := by cases x <;> simp_all
    rw [this]
  unfold up1 at fin
  go_enter Tryd.func63, Tryd.ntmps63
  go_wp2_with (go_at_call 62; rcases within_two _ _ _ _ with ⟨h, c⟩ | ⟨h, c⟩ <;> (refine c.mono ?_; clear c; rintro e w' ⟨rfl, rfl⟩))
  all_goals (go_ret; refine ⟨fin _ ?_, rfl⟩)
  all_goals (try simp only [beq_iff_eq, beq_eq_false_iff_ne, ne_eq] at *)
  all_goals (try rw [Int.tmod_eq_emod_of_nonneg (by omega)])
  all_goals (try simp only [Bool.not_eq_true', beq_eq_false_iff_ne, ne_eq])
  all_goals (try simp only [Bool.false_eq_true, false_iff])
  all_goals omega

theorem follows_two (r : Int) (w : World) (h0 : -2147483648 ≤ r) (h1 : r ≤ 2147483647) : (up1 r ∧ Calls Tryd.prog 63 #[.int .i32 r] w fun e w' => e = .returned (.bool true) ∧ w' = w) ∨
    (¬ up1 r ∧ Calls Tryd.prog 63 #[.int .i32 r] w fun e w' => e = .returned (.bool false) ∧ w' = w) := by
  have c := follows_any r w h0 h1
  by_cases h : up1 r
  · rw [decide_eq_true h] at c; exact .inl ⟨h, c⟩
  · rw [decide_eq_false h] at c; exact .inr ⟨h, c⟩
set_option maxHeartbeats 1000000 in
theorem upper_any (r : Int) (w : World) (h0 : -2147483648 ≤ r) (h1 : r ≤ 2147483647) :
    Calls Tryd.prog 44 #[.int .i32 r] w fun e w' => e = .returned (.int .i32 (up r)) ∧ w' = w := by
  have hc := up_cases r
  have hf := follows_two r w h0 h1
  unfold up32 up1 at hc
  unfold up1 at hf
  generalize up r = C at *
  go_enter Tryd.func44, Tryd.ntmps44
  go_wp2_with (first
      | (go_at_call 63; rcases hf with ⟨h, c⟩ | ⟨h, c⟩ <;> (refine c.mono ?_; clear c; rintro e w' ⟨rfl, rfl⟩))
      | (go_at_call 62; rcases within_two _ _ _ _ with ⟨h, c⟩ | ⟨h, c⟩ <;> (refine c.mono ?_; clear c; rintro e w' ⟨rfl, rfl⟩)))
  all_goals (go_ret; refine ⟨ret_i ?_, rfl⟩; (try simp only [beq_iff_eq, beq_eq_false_iff_ne, ne_eq] at *); omega)

end Go.Proofs.YtcocbjipikeebaaDoor.Utf
