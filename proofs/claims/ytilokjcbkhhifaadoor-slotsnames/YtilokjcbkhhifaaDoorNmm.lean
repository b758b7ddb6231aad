/-
  Of no program: the names of slots as bytes.
-/
import Derived.Test.YtilokjcbkhhifaaDoorProg
import Derived.Lib.ItoaNum
import Derived.Lib.AtoiTie
import Derived.Lib.AtoiAllCases
namespace Go.Proofs.YtilokjcbkhhifaaDoor.Grd
open Go Go.Lib

/-- The digits of a number below 1000. -/
def dig3 (n : Nat) : List UInt8 :=
  if n < 10 then [UInt8.ofNat (48 + n)] else if n < 100 then [UInt8.ofNat (48 + n / 10), UInt8.ofNat (48 + n % 10)] else [UInt8.ofNat (48 + n / 100), UInt8.ofNat (48 + n / 10 % 10), UInt8.ofNat (48 + n % 10)]
theorem digs_dig3 {n : Nat} (h : n < 1000) : decDigits n = dig3 n := by
  unfold dig3
  by_cases h1 : n < 10
  · rw [if_pos h1, decDigits_one h1]
  · rw [if_neg h1]
    by_cases h2 : n < 100
    · rw [if_pos h2, decDigits_two h1 h2]
    · rw [if_neg h2, decDigits, dif_neg h1, decDigits_two (by omega) (by omega)]
      simp only [List.cons_append, List.nil_append, Nat.div_div_eq_div_mul]
theorem dig3_len (n : Nat) : 1 ≤ (dig3 n).length ∧ (dig3 n).length ≤ 3 := by
  unfold dig3
  split
  · simp
  · split <;> simp
/-- The name of a slot, as bytes; none of a number that has no name. -/
def nmL (n : Nat) (dn : Bool) : List UInt8 := dig3 n ++ [if dn then 68 else 65]
def nameS (num : Int) (dn : Bool) : ByteArray := if 1 ≤ num ∧ num ≤ 999 then ⟨(nmL num.toNat dn).toArray⟩ else ⟨#[]⟩
theorem atoi_dig3 : ∀ n, n < 1000 → atoi (dig3 n) = some (n : Int) := by decide +kernel
theorem atoiAll_dig3 {n : Nat} (h : n < 1000) : atoiAll (dig3 n) = .ok (n : Int) := by
  rw [atoiAll_short _ (by have := (dig3_len n).2; omega), atoi_dig3 n h]
  rfl
theorem nmL_inj {n n' : Nat} {dn dn' : Bool} (h : n < 1000) (h' : n' < 1000) (e : nmL n dn = nmL n' dn') : n = n' ∧ dn = dn' := by
  unfold nmL at e
  obtain ⟨e1, e2⟩ := List.append_inj' e rfl
  have a := atoi_dig3 n h
  rw [e1, atoi_dig3 n' h'] at a
  refine ⟨by have := Option.some.inj a; omega, ?_⟩
  cases dn <;> cases dn' <;> simp at e2 ⊢
theorem nmL_len (n : Nat) (dn : Bool) : 2 ≤ (nmL n dn).length ∧ (nmL n dn).length ≤ 4 := by
  unfold nmL
  rw [List.length_append]
  have := dig3_len n
  simp only [List.length_cons, List.length_nil]
  omega
end Go.Proofs.YtilokjcbkhhifaaDoor.Grd
