/-
  Plain facts on the places of a text and their runes, as a list: what going through a text gives.
-/
import Derived.Test.YtikfaalbdnlelaaGreatDoorUtfm
namespace Go.Proofs.YtikfaalbdnlelaaGreatDoor.Utf
open Go Go.Lib

/-- The places from one on, each with its rune. -/
def pairsFrom (s : ByteArray) : Nat → Nat → List (Nat × Nat)
  | 0, _ => []
  | fuel + 1, pos => if pos < s.size then (pos, (Utf8.decode s pos).1) :: pairsFrom s fuel (pos + (Utf8.decode s pos).2) else []
def pairs (s : ByteArray) : List (Nat × Nat) := pairsFrom s s.size 0
theorem pairsFrom_end (s : ByteArray) (fuel pos : Nat) (h : ¬ pos < s.size) : pairsFrom s fuel pos = [] := by
  cases fuel <;> simp [pairsFrom, h]
theorem pairsFrom_step {s : ByteArray} {fuel pos : Nat} (h : pos < s.size) : pairsFrom s (fuel + 1) pos = (pos, (Utf8.decode s pos).1) :: pairsFrom s fuel (pos + (Utf8.decode s pos).2) := by
  rw [pairsFrom, if_pos h]
theorem pairsFrom_length (s : ByteArray) : ∀ fuel pos, (pairsFrom s fuel pos).length = runeCountFrom s fuel pos
  | 0, _ => rfl
  | f + 1, pos => by
    rw [pairsFrom, runeCountFrom]
    split
    · rw [List.length_cons, pairsFrom_length s f, Nat.add_comm]
    · rfl
theorem pairs_length (s : ByteArray) : (pairs s).length = runeCount s := pairsFrom_length s _ _
theorem pairs_le (s : ByteArray) : (pairs s).length ≤ s.size := by rw [pairs_length]; exact runeCount_le s
/-- What is written for a rune, for a list of runes. -/
def encB (r : Nat) : List UInt8 := (Utf8.encode r).data.toList
def encs (l : List (Nat × Nat)) : List UInt8 := l.flatMap fun x => encB x.2
theorem encs_nil : encs [] = [] := rfl
theorem encs_cons (x : Nat × Nat) (l : List (Nat × Nat)) : encs (x :: l) = encB x.2 ++ encs l := List.flatMap_cons
theorem encs_append (a b : List (Nat × Nat)) : encs (a ++ b) = encs a ++ encs b := List.flatMap_append
theorem encs_snoc (a : List (Nat × Nat)) (x : Nat × Nat) : encs (a ++ [x]) = encs a ++ encB x.2 := by rw [encs_append, encs_cons, encs_nil, List.append_nil]
theorem ba_len (E : ByteArray) : E.data.toList.length = E.size := by cases E; simp [ByteArray.size]
theorem encB_size (r : Nat) : (encB r).length = (Utf8.encode r).size := by rw [encB, ba_len]
theorem encB_le (r : Nat) : (encB r).length ≤ 4 := by rw [encB_size]; exact (enc_size r).2
theorem encs_le (l : List (Nat × Nat)) : (encs l).length ≤ 4 * l.length := by
  induction l with
  | nil => rw [encs_nil]; exact Nat.zero_le _
  | cons x r ih =>
    have h := encB_le x.2
    rw [encs_cons, List.length_append, List.length_cons]
    omega
end Go.Proofs.YtikfaalbdnlelaaGreatDoor.Utf
