/-
  Letters' texts one behind the other.
-/
import Derived.Test.YtjgmmfkeogkakaaGreatSplmq
namespace Go.Proofs.YtjgmmfkeogkakaaGreat.Utf
open Go Go.Lib Go.RowKit

/-- The text of a letter by any number. -/
def ltr (L : List ByteArray) (z : Int) : ByteArray := (L[z.toNat]?).getD ⟨#[]⟩
/-- Numbers that are all letters'. -/
def okNums (L : List ByteArray) (zs : List Int) : Prop := ∀ z ∈ zs, 0 ≤ z ∧ z < L.length
/-- The letters' texts, one behind the other. -/
def joinL (L : List ByteArray) (zs : List Int) : List UInt8 := zs.flatMap fun z => (ltr L z).data.toList
def joinT (L : List ByteArray) (zs : List Int) : ByteArray := ⟨(joinL L zs).toArray⟩
theorem ltr_at {L : List ByteArray} {k : Nat} (h : k < L.length) : ltr L (k : Int) = L[k] := by unfold ltr; rw [Int.toNat_natCast, List.getElem?_eq_getElem h]; rfl
theorem joinL_next (L : List ByteArray) (zs : List Int) {k : Nat} (h : k < zs.length) : joinL L (zs.take (k + 1)) = joinL L (zs.take k) ++ (ltr L zs[k]).data.toList := by
  unfold joinL
  rw [List.take_succ_eq_append_getElem h, List.flatMap_append]
  simp
theorem joinL_le {L : List ByteArray} (hL : ∀ x ∈ L, x.size ≤ 12) : ∀ zs : List Int, (joinL L zs).length ≤ 12 * zs.length
  | [] => by simp [joinL]
  | z :: r => by
    have ih := joinL_le hL r
    have h1 : (ltr L z).size ≤ 12 := by
      unfold ltr
      cases h : L[z.toNat]? with
      | none => simp [ByteArray.size]
      | some x => exact hL x (List.mem_of_getElem? h)
    unfold joinL at *
    rw [List.flatMap_cons, List.length_append, List.length_cons, ba_sz]
    omega
theorem take_ok {L : List ByteArray} {zs : List Int} {k : Nat} (h : k < zs.length) (h1 : okNums L (zs.take k)) (h2 : 0 ≤ zs[k] ∧ zs[k] < L.length) : okNums L (zs.take (k + 1)) := fun z hz => by
  rw [List.take_succ_eq_append_getElem h] at hz
  rcases List.mem_append.1 hz with h3 | h3
  · exact h1 z h3
  · rw [List.mem_singleton.1 h3]; exact h2
end Go.Proofs.YtjgmmfkeogkakaaGreat.Utf
