/-
  The laws' first look (awake) at layer 2: a text is folded, a letter is one, a text has two words.
-/
import Derived.Test.YtiemndjcebhgcaaFldf
import Derived.Test.YtiemndjcebhgcaaWrd
namespace Go.Proofs.Ytiemndjcebhgcaa.Utf
open Go Go.Lib Go.RowKit

theorem ownsRow_slice {W : World} {B : Nat} {e : TypeId} {v : Value} {xs : List Value} {n : Nat} (h : W.ownsRow B e 1 v n xs) : ∃ ao cap, v = .slice ao n cap := by
  rcases h.2 with ⟨hv, hn⟩ | ⟨g, cap, cur, hv, _⟩
  · subst hn; exact ⟨_, _, hv⟩
  · exact ⟨_, _, hv⟩
theorem awake_fold : foldS true ⟨#[67, 114, 195, 168, 109, 101, 33]⟩ = ⟨#[67, 82, 69, 77, 69]⟩ := by kernel_rfl
theorem awake_cls : cls 113 = 1 := by decide
theorem awake_words : (wordsP ⟨#[32, 97, 32, 98]⟩).length = 2 := by kernel_rfl

set_option maxHeartbeats 1000000 in
theorem awake2_any (w : World) :
    Calls Try.prog 4 #[] w fun e w' => e = .returned (.bool true) ∧ Below w.heap.size w w' := by
  have c1 := fun w => fold_any ⟨#[67, 114, 195, 168, 109, 101, 33]⟩ true w (by decide)
  rw [awake_fold] at c1
  have c2 := fun w => class_any 113 w
  rw [awake_cls] at c2
  have c3 := fun w => words_any ⟨#[32, 97, 32, 98]⟩ w (by decide)
  rw [awake_words] at c3
  go_enter Try.func4, Try.ntmps4
  go_wp2_with fail
  refine (c1 _).mono ?_
  rintro e w1 ⟨rfl, hb1⟩
  go_wp2_with fail
  refine (c2 _).mono ?_
  rintro e w2 ⟨rfl, hw⟩
  obtain rfl := hw.symm
  go_wp2_with fail
  refine (c3 _).mono ?_
  rintro e w3 ⟨v, rfl, hown, hb3⟩
  obtain ⟨ao, cap, rfl⟩ := ownsRow_slice hown
  go_wp2
  go_ret
  exact ⟨rfl, hb1.trans (hb3.mono hb1.size)⟩
end Go.Proofs.Ytiemndjcebhgcaa.Utf
