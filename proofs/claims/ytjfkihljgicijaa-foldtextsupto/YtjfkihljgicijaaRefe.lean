/-
  The document's Plain walked: the same answers, for every number that an int32 can be.
-/
import Derived.Test.YtjfkihljgicijaaFldp
import Derived.Test.YtjfkihljgicijaaUtfw
namespace Go.Proofs.Ytjfkihljgicijaa.Utf
open Go Go.Lib Go.RowKit

theorem ret_bl {a b : Bool} (h : a = b) : Ending.returned (.bool a) = .returned (.bool b) := by rw [h]
theorem among_two (n a b : Int) (w : World) (h0 : -2147483648 ≤ n) (h1 : n ≤ 2147483647) (ha : 0 ≤ a) (ha' : a ≤ 1000) :
    ((a ≤ n ∧ n ≤ b ∧ (n - a) % 2 = 0) ∧ Calls Try.prog 27 #[.int .i64 n, .int .i64 a, .int .i64 b] w fun e w' => e = .returned (.bool true) ∧ w' = w) ∨
    (¬ (a ≤ n ∧ n ≤ b ∧ (n - a) % 2 = 0) ∧ Calls Try.prog 27 #[.int .i64 n, .int .i64 a, .int .i64 b] w fun e w' => e = .returned (.bool false) ∧ w' = w) := by
  by_cases h : a ≤ n ∧ n ≤ b ∧ (n - a) % 2 = 0
  · refine .inl ⟨h, ?_⟩
    obtain ⟨h2, h3, h4⟩ := h
    have hq : ((n - a) % 2 == 0) = true := by rw [beq_iff_eq]; exact h4
    clear h4
    go_enter Try.func27, Try.ntmps27
    go_wp2
    all_goals (go_ret; first | exact ⟨rfl, rfl⟩ | exact ⟨ret_bl hq, rfl⟩ | omega)
  · refine .inr ⟨h, ?_⟩
    by_cases h2 : a ≤ n
    · by_cases h3 : n ≤ b
      · have hq : ((n - a) % 2 == 0) = false := by rw [beq_eq_false_iff_ne]; omega
        clear h
        go_enter Try.func27, Try.ntmps27
        go_wp2
        all_goals (go_ret; first | exact ⟨rfl, rfl⟩ | exact ⟨ret_bl hq, rfl⟩ | omega)
      · clear h
        go_enter Try.func27, Try.ntmps27
        go_wp2
        all_goals (go_ret; first | exact ⟨rfl, rfl⟩ | omega)
    · clear h
      go_enter Try.func27, Try.ntmps27
      go_wp2
      all_goals (go_ret; first | exact ⟨rfl, rfl⟩ | omega)

theorem among_K {n a b : Int} {w : World} {Q : Ending → World → Prop} (h0 : -2147483648 ≤ n) (h1 : n ≤ 2147483647) (hy : (a ≤ n ∧ n ≤ b ∧ (n - a) % 2 = 0) → Q (.returned (.bool true)) w)
    (hn : ¬ (a ≤ n ∧ n ≤ b ∧ (n - a) % 2 = 0) → Q (.returned (.bool false)) w) (ha : 0 ≤ a ∧ a ≤ 1000) : Calls Try.prog 27 #[.int .i64 n, .int .i64 a, .int .i64 b] w Q := by
  rcases among_two n a b w h0 h1 ha.1 ha.2 with ⟨h, c⟩ | ⟨h, c⟩
  · exact c.mono fun e w' ⟨he, hw⟩ => by rw [he, hw]; exact hy h
  · exact c.mono fun e w' ⟨he, hw⟩ => by rw [he, hw]; exact hn h
/-- Texts of bytes below 128 are their own runes. -/
theorem encR_ascii : ∀ (l : List UInt8), (l.all fun b => decide (b.toNat < 128)) = true → encR (l.map UInt8.toNat) = l
  | [], _ => rfl
  | b :: r, h => by
    rw [List.all_cons, Bool.and_eq_true, decide_eq_true_iff] at h
    rw [List.map_cons, encR_cons, encR_ascii r h.2, encB, encZ1 (by omega) (by omega)]
    simp
theorem pl_ascii {n : Int} (E : ByteArray) (h : plT n = E.data.toList.map UInt8.toNat) (h1 : (E.data.toList.all fun b => decide (b.toNat < 128)) = true) (h2 : E.data.toList.map UInt8.toNat ≠ []) : E = pl n := by
  rw [pl_hit _ h h2, encR_ascii _ h1]

set_option maxHeartbeats 8000000 in
set_option maxRecDepth 100000 in
theorem refPlain_any (r : Int) (w : World) (h0 : -2147483648 ≤ r) (h1 : r ≤ 2147483647) :
    Calls Try.prog 14 #[.int .i32 r] w fun e w' => e = .returned (.string (pl r)) ∧ Below w.heap.size w w' := by
  have cE := refEncode_any r w h0 h1
  go_enter Try.func14, Try.ntmps14
  go_wp2_with (first
    | (go_at_call 28; refine cE.mono ?_; rintro e w' ⟨rfl, hb⟩)
    | (go_at_call 27; refine among_K h0 h1 (fun h => ?_) (fun h => ?_) (by decide) <;> (try dsimp only)))
  all_goals (go_ret; refine ⟨ret_str' ?_, by first | exact Below.refl _ _ | assumption⟩)
  all_goals (try simp only [beq_iff_eq, beq_eq_false_iff_ne, ne_eq] at *)
  all_goals first
    | (exfalso; omega)
    | (refine pl_ascii _ ?_ (by decide) (by decide)
       unfold plT
       repeat rw [if_neg (by omega)]
       rw [if_pos (by omega)] <;> rfl)
    | (refine (pl_miss ?_).symm
       unfold plT
       repeat rw [if_neg (by omega)])
end Go.Proofs.Ytjfkihljgicijaa.Utf
