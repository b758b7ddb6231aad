/-
  The document's stands and Split walked: the longest letter at each place, found by looking at all.
-/
import Derived.Test.YtcocbjipikeebaaDoorGsj
import Derived.Test.YtcocbjipikeebaaDoorNewq
import Derived.Maps.AppendAt
namespace Go.Proofs.YtcocbjipikeebaaDoor.Utf
open Go Go.Lib Go.RowKit

theorem extract_list (s : ByteArray) (a b : Nat) : (s.extract a b).data.toList = (s.data.toList.drop a).take (b - a) := by
  rw [ByteArray.data_extract, Array.toList_extract, List.extract_eq_take_drop]
theorem begins_slice (s X : ByteArray) (pos : Nat) (h : X.size ≤ s.size - pos) : begins (s.extract pos s.size) X = true ↔ s.extract pos (pos + X.size) = X := by
  rw [begins_iff, List.prefix_iff_eq_take, extract_list, List.take_take, ba_sz]
  rw [show min X.size (s.size - pos) = X.size by omega]
  constructor
  · intro e
    refine ba_eq ?_
    rw [extract_list, show pos + X.size - pos = X.size by omega, ← e]
  · intro e
    have := congrArg (fun x : ByteArray => x.data.toList) e
    rw [extract_list, show pos + X.size - pos = X.size by omega] at this
    exact this.symm
theorem begins_long (s X : ByteArray) (pos : Nat) (h : ¬ X.size ≤ s.size - pos) : begins (s.extract pos s.size) X = false := by
  cases hb : begins (s.extract pos s.size) X with
  | false => rfl
  | true =>
    have := begins_size hb
    rw [rest_size] at this
    exact absurd this h

/-- The best among the first letters. -/
def BestTo (L : List ByteArray) (t : ByteArray) (k : Nat) (z : Int) : Prop :=
  (z = -1 ∧ ∀ j (h : j < L.length), j < k → begins t L[j] = false) ∨ ∃ (i : Nat) (hi : i < L.length), z = (i : Int) ∧ i < k ∧ begins t L[i] = true ∧ ∀ j (h : j < L.length), j < k → begins t L[j] = true → L[j].size ≤ L[i].size
theorem BestTo.skip {L : List ByteArray} {t : ByteArray} {k : Nat} {z : Int} (h : BestTo L t k z) (hk : k < L.length) (hb : begins t L[k] = false) : BestTo L t (k + 1) z := by
  rcases h with ⟨rfl, h⟩ | ⟨i, hi, rfl, h1, h2, h3⟩
  · refine .inl ⟨rfl, fun j hj hjk => ?_⟩
    by_cases e : j = k
    · subst e; exact hb
    · exact h j hj (by omega)
  · refine .inr ⟨i, hi, rfl, by omega, h2, fun j hj hjk hbj => ?_⟩
    by_cases e : j = k
    · subst e; rw [hb] at hbj; cases hbj
    · exact h3 j hj (by omega) hbj
theorem BestTo.first {L : List ByteArray} {t : ByteArray} {k : Nat} (h : BestTo L t k (-1)) (hk : k < L.length) (hb : begins t L[k] = true) : BestTo L t (k + 1) (k : Int) := by
  rcases h with ⟨_, h⟩ | ⟨i, hi, h1, _⟩
  · refine .inr ⟨k, hk, rfl, by omega, hb, fun j hj hjk hbj => ?_⟩
    by_cases e : j = k
    · subst e; exact Nat.le_refl _
    · rw [h j hj (by omega)] at hbj; cases hbj
  · omega
theorem BestTo.more {L : List ByteArray} {t : ByteArray} {k i : Nat} (h : BestTo L t k (i : Int)) (hi : i < L.length) (hk : k < L.length) (hb : begins t L[k] = true) (hs : L[i].size < L[k].size) : BestTo L t (k + 1) (k : Int) := by
  rcases h with ⟨h0, _⟩ | ⟨i', hi', h1, _, h2, h3⟩
  · omega
  · obtain rfl : i = i' := by omega
    refine .inr ⟨k, hk, rfl, by omega, hb, fun j hj hjk hbj => ?_⟩
    by_cases e : j = k
    · subst e; exact Nat.le_refl _
    · have := h3 j hj (by omega) hbj
      omega
theorem BestTo.less {L : List ByteArray} {t : ByteArray} {k i : Nat} (h : BestTo L t k (i : Int)) (hi : i < L.length) (hk : k < L.length) (hs : ¬ L[i].size < L[k].size) : BestTo L t (k + 1) (i : Int) := by
  rcases h with ⟨h0, _⟩ | ⟨i', hi', h1, h2, h3, h4⟩
  · omega
  · obtain rfl : i = i' := by omega
    refine .inr ⟨i, hi, rfl, by omega, h3, fun j hj hjk hbj => ?_⟩
    by_cases e : j = k
    · subst e; omega
    · exact h4 j hj (by omega) hbj
theorem BestTo.done {L : List ByteArray} (hN : L.Nodup) {t : ByteArray} {z : Int} (h : BestTo L t L.length z) : (z = -1 ∧ best L t = none) ∨ ∃ (i : Nat) (hi : i < L.length), z = (i : Int) ∧ best L t = some i ∧ begins t L[i] = true := by
  rcases h with ⟨rfl, h⟩ | ⟨i, hi, rfl, _, h2, h3⟩
  · exact .inl ⟨rfl, best_none fun j hj => h j hj hj⟩
  · exact .inr ⟨i, hi, rfl, best_some hN ⟨hi, h2, fun j hj hb => h3 j hj hj hb⟩, h2⟩

end Go.Proofs.YtcocbjipikeebaaDoor.Utf
